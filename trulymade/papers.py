"""Papers: chains that together show that something is sure, or never so: point [29]."""

from trulymade.answers import answer, fits
from trulymade.books import check_book, check_claim
from trulymade.chains import is_chain_to, notes_used, said_and_lasts
from trulymade.deriving import found_chain
from trulymade.errors import BadWord, NoPaper
from trulymade.letting import kept_without, let_lots
from trulymade.reasons import CLASH

# What the chains of a paper do with the claim.
CHAIN_WORDS = {"sure": "bears", "never": "bars"}


def paper(book, claim):
    """A paper that the claim is sure, or that it is never so, as the answer is."""
    word = answer(book, claim)
    if word not in CHAIN_WORDS:
        raise NoPaper(word)
    said, lasts = said_and_lasts(claim, CHAIN_WORDS[word])
    return chains_for_all(book, said, lasts)


def is_paper(book, claim, word, thing):
    """Whether this is a paper that the claim is sure, or that it is never so."""
    check_claim(book, claim)
    if word not in ("sure", "never"):
        raise BadWord(word)
    said, lasts = said_and_lasts(claim, CHAIN_WORDS[word])
    return are_chains_for_all(book, said, lasts, thing)


def broken_paper(book):
    """None if the book has a world, otherwise a paper that it has none."""
    if fits(book):
        return None
    return chains_for_all(book, None, (CLASH,))


def is_broken_paper(book, thing):
    """Whether this is a paper that the book has no world."""
    check_book(book)
    return are_chains_for_all(book, None, (CLASH,), thing)


def chains_for_all(book, said, lasts):
    """A tuple of chains with one for each let lot that uses no note of it."""
    chains = []
    used = []
    for lot in let_lots(book):
        if not is_served(used, lot):
            found = found_chain(book, kept_without(book, lot), said, lasts)
            chains.append(found)
            used.append(notes_used(book, found))
    return tuple(chains)


def are_chains_for_all(book, said, lasts, value):
    """Whether this is a tuple of chains with one for each let lot that uses no note of it."""
    if not isinstance(value, tuple):
        return False
    kept = book.all_notes()
    for one in value:
        if not is_chain_to(book, kept, said, lasts, one):
            return False
    used = [notes_used(book, one) for one in value]
    return all([is_served(used, lot) for lot in let_lots(book)])


def is_served(used, lot):
    """Whether one of these lists of used notes has no note of the lot."""
    for notes in used:
        if not [at for at in notes if at in lot]:
            return True
    return False
