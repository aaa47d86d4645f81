"""Which doubtful notes a claim, or a clash, hangs on: point [30]."""

from trulymade.books import check_book, check_claim
from trulymade.closing import Closing
from trulymade.letting import kept_with, least_lots


def bearing(book, claim):
    """The list of the least lots of doubtful notes that bear the claim."""
    check_claim(book, claim)
    return least_lots(book.doubtful, lambda lot: bears(Closing(book, kept_with(book, lot), None), claim))


def barring(book, claim):
    """The list of the least lots of doubtful notes that bar the claim."""
    check_claim(book, claim)
    return least_lots(book.doubtful, lambda lot: bars(Closing(book, kept_with(book, lot), None), claim))


def undoing(book, claim):
    """The list of the least lots that have a note in common with each lot that bears the claim."""
    borne = bearing(book, claim)
    return least_lots(book.doubtful, lambda lot: meets_all(lot, borne))


def blame(book):
    """The list of the least lots with which the sure notes clash."""
    check_book(book)
    return least_lots(book.doubtful, lambda lot: Closing(book, kept_with(book, lot), None).clashes())


def margin(book, claim):
    """How many lies there may be so that the claim still holds in every world; -1 if not even 0."""
    lots = undoing(book, claim)
    return len(lots[0]) - 1 if lots else len(book.doubtful)


def bears(closing, claim):
    """Whether a chain bears the claim for the notes of a closing with nothing said."""
    return closing.clashes() or closing.has(claim)


def bars(closing, claim):
    """Whether a chain bars the claim for the notes of a closing with nothing said."""
    return closing.clashes() or not closing.allows(claim)


def meets_all(lot, lots):
    """Whether the lot has a note in common with each of these lots."""
    for other in lots:
        if not [at for at in other if at in lot]:
            return False
    return True
