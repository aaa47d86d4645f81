"""Chains of steps that bear or bar a claim: points [27] and [28]."""

from trulymade.books import check_book, check_claim, check_kept
from trulymade.deriving import found_chain
from trulymade.errors import BadWord
from trulymade.reasons import CLASH, KINDS, follows
from trulymade.rows import is_whole


def chain(book, kept, claim, word):
    """A chain for the kept notes that bears or bars the claim, or None."""
    check_asked(book, kept, claim, word)
    said, lasts = said_and_lasts(claim, word)
    return found_chain(book, kept, said, lasts)


def is_chain(book, kept, claim, word, thing):
    """Whether this is a chain for the kept notes that bears or bars the claim."""
    check_asked(book, kept, claim, word)
    said, lasts = said_and_lasts(claim, word)
    return is_chain_to(book, kept, said, lasts, thing)


def notes_used(book, thing):
    """The ascending list of the doubtful notes that the steps of a chain name."""
    check_book(book)
    used = {}
    for _, reason in thing:
        for kind, index in zip(KINDS[reason[0]], reason[1:]):
            if kind == "note" and index in book.doubtful:
                used[index] = True
    return sorted(used)


def check_asked(book, kept, claim, word):
    """What chain and is_chain ask of these."""
    check_book(book)
    check_kept(book, kept)
    check_claim(book, claim)
    if word not in ("bears", "bars"):
        raise BadWord(word)


def said_and_lasts(claim, word):
    """What may be said in a chain that bears or bars the claim, or None, and the tuple of what its last fact may be."""
    same = ("as", claim[1], claim[2])
    if claim[0] == "apart":
        return (same, (CLASH,)) if word == "bears" else (None, (CLASH, same))
    return (None, (CLASH, claim)) if word == "bears" else (claim, (CLASH,))


def is_chain_to(book, kept, said, lasts, thing):
    """Whether this is a chain, with this said unless it is None, that ends in one of these facts."""
    if not isinstance(thing, tuple) or not thing:
        return False
    facts = []
    for step in thing:
        if not is_step(book, kept, said, facts, step):
            return False
        facts.append(step[0])
    return facts[-1] in lasts


def is_step(book, kept, said, facts, value):
    """Whether this is a step behind those with these facts."""
    if not isinstance(value, tuple) or len(value) != 2:
        return False
    fact, reason = value
    if not is_fact(book, fact) or not is_reason(reason):
        return False
    word, *indexes = reason
    told = [named(book, kept, facts, kind, index) for kind, index in zip(KINDS[word], indexes)]
    return None not in told and follows(book, said, word, told, fact)


def is_fact(book, value):
    """Whether this can be the fact of a step."""
    return value == CLASH or (book.has_claim(value) and value[0] != "apart")


def is_reason(value):
    """Whether this is a tuple of the word of a reason and as many indexes as it names."""
    if not isinstance(value, tuple) or not value or not isinstance(value[0], str):
        return False
    return value[0] in KINDS and len(value) == 1 + len(KINDS[value[0]])


def named(book, kept, facts, kind, index):
    """The earlier fact, the kept note or the making that has this index, or None."""
    if not is_whole(index):
        return None
    if kind == "note":
        return book.notes[index] if index in kept else None
    rows = facts if kind == "step" else book.makings
    return rows[index] if 0 <= index < len(rows) else None
