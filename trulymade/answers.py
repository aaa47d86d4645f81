"""What is so in all worlds of a book, in none, or in some: points [22] and [25]."""

from trulymade.books import check_book, check_claim
from trulymade.letting import sound_closings


def answer(book, claim):
    """The word that tells whether the claim holds in the worlds of the book."""
    check_claim(book, claim)
    return answer_among(sound_closings(book), claim)


def answer_among(closings, claim):
    """The answer for a claim of a book with these sound closings."""
    if not closings:
        return "broken"
    if all_have(closings, claim):
        return "sure"
    return "open" if some_allow(closings, claim) else "never"


def all_have(closings, claim):
    """Whether the claim follows in each of these closings."""
    for closing in closings:
        if not closing.has(claim):
            return False
    return True


def some_allow(closings, claim):
    """Whether the claim could be said in one of these closings."""
    for closing in closings:
        if closing.allows(claim):
            return True
    return False


def fits(book):
    """Whether the book has a world."""
    check_book(book)
    return bool(sound_closings(book))


def surely_alike(book):
    """The ascending list of the tuples of two things, the lesser one first, that are surely alike."""
    check_book(book)
    closings = sound_closings(book)
    if not closings:
        return []
    names = sorted([name for name, _ in book.things])
    return [(a, b) for a in names for b in names if a < b and all_have(closings, ("as", a, b))]
