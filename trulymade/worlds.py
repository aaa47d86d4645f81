"""Real rows for the names of a book, and what holds for them: point [21]."""

from trulymade.bookparts import is_ascending
from trulymade.books import check_book, check_claim
from trulymade.errors import BadWorld, TooLong
from trulymade.likeness import alike
from trulymade.programs import is_small
from trulymade.right import is_right
from trulymade.rows import is_row, is_thing
from trulymade.running import run

LONGEST_SCRAP = 8000


def is_world(book, thing):
    """Whether this is a world of the book."""
    check_book(book)
    if not isinstance(thing, tuple) or len(thing) != 2:
        return False
    false, rows = thing
    if not is_false_lot(book, false) or not are_rows_of(book, rows):
        return False
    believed = [note for at, note in enumerate(book.notes) if at not in false]
    return makings_come_out(book, believed, rows) and notes_hold(believed, rows)


def is_false_lot(book, value):
    """Whether this is an ascending tuple of at most lies many doubtful notes."""
    if not isinstance(value, tuple) or len(value) > book.lies or not is_ascending(value, len(book.notes)):
        return False
    return all([at in book.doubtful for at in value])


def are_rows_of(book, value):
    """Whether this is a dict with a fitting row for each name of the book, all unlike."""
    if not isinstance(value, dict) or len(value) != len(book.things) + len(book.scraps):
        return False
    for name, form in book.things:
        if name not in value or not is_real_thing(value[name], form):
            return False
    for name in book.scraps:
        if name not in value or not is_real_scrap(value[name]):
            return False
    return len({value[name] for name in value}) == len(value)


def is_real_thing(value, form):
    """Whether this is a tuple that is a small thing of this form."""
    return isinstance(value, tuple) and is_small(value) and value[0] == form


def is_real_scrap(value):
    """Whether this is a tuple that is a scrap of a length that worlds let."""
    return isinstance(value, tuple) and len(value) <= LONGEST_SCRAP and is_row(value) and not is_thing(value)


def makings_come_out(book, notes, rows):
    """Whether all makings come out at the hosts that these notes trust."""
    trusted = [note[1] for note in notes if note[0] == "host"]
    return all([writes(rows[maker], rows[thing], rows[outcome])
                for host, maker, thing, outcome in book.makings if host in trusted])


def notes_hold(notes, rows):
    """Whether these notes hold for the rows, but for those about hosts."""
    return all([holds_for(rows, note) for note in notes if note[0] != "host"])


def holds_for(rows, claim):
    """Whether a claim, or a note that could be one, holds for these rows."""
    if claim[0] == "as":
        return alike(rows[claim[1]], rows[claim[2]])
    if claim[0] == "apart":
        return not alike(rows[claim[1]], rows[claim[2]])
    if claim[0] == "right":
        return is_right(claim[2], claim[3], rows[claim[1]])
    return writes(rows[claim[1]], rows[claim[2]], rows[claim[3]])


def writes(maker, thing, outcome):
    """Whether the maker, run on the thing, writes just this; what is too long is nothing of the kind."""
    try:
        return run(maker, thing) == outcome
    except TooLong:
        return False


def holds(book, world, claim):
    """Whether the claim holds for the rows of a world of the book."""
    if not is_world(book, world):
        raise BadWorld(world)
    check_claim(book, claim)
    return holds_for(world[1], claim)
