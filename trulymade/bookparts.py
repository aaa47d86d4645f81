"""What the rows of a book may have: points [17] and [20].

known is a dict from names to tuples (word, form): the word of the row in
which the name stands, and None as the form of a scrap.
"""

from trulymade.errors import BadBook
from trulymade.names import is_name
from trulymade.rows import is_form, is_whole

MOST_THINGS = 16
MOST_SCRAPS = 6
MOST_HOSTS = 6
MOST_MAKINGS = 30
MOST_NOTES = 20
MOST_DOUBTFUL = 8


def known_names(things, scraps, hosts):
    """The dict of all names, if these three are rows of a book."""
    known = {}
    add_names(known, "things", things, MOST_THINGS)
    add_names(known, "scraps", scraps, MOST_SCRAPS)
    add_names(known, "hosts", hosts, MOST_HOSTS)
    return known


def add_names(known, word, rows, most):
    """Put the names of one row of a book into the dict; all names are unlike."""
    check_length(word, rows, most)
    for at, item in enumerate(rows):
        named = (item, None) if word == "scraps" else item
        if not is_named(named, word) or named[0] in known:
            raise BadBook((word, at))
        known[named[0]] = (word, named[1])


def is_named(value, word):
    """Whether this is a tuple of a name and a form, or of a name and None for a scrap."""
    if not isinstance(value, tuple) or len(value) != 2 or not is_name(value[0]):
        return False
    return word == "scraps" or is_form(value[1])


def check_length(word, rows, most):
    """This must be a list or a tuple, and not too long."""
    if not isinstance(rows, (list, tuple)) or len(rows) > most:
        raise BadBook((word, -1))


def check_makings(known, makings):
    """What a book asks of its makings."""
    check_length("makings", makings, MOST_MAKINGS)
    for at, making in enumerate(makings):
        if not is_making(known, making) or making in makings[:at]:
            raise BadBook(("makings", at))


def check_notes(known, notes):
    """What a book asks of its notes."""
    check_length("notes", notes, MOST_NOTES)
    for at, note in enumerate(notes):
        if not is_note(known, note) or note in notes[:at]:
            raise BadBook(("notes", at))


def check_doubts(doubtful, lies, many):
    """What a book with so many notes asks of its doubtful ones and of lies."""
    check_length("doubtful", doubtful, MOST_DOUBTFUL)
    for at, index in enumerate(doubtful):
        if not is_ascending(doubtful[:at + 1], many):
            raise BadBook(("doubtful", at))
    if not is_whole(lies) or not 0 <= lies <= len(doubtful):
        raise BadBook(("lies", -1))


def is_ascending(indexes, many):
    """Whether these are ascending indexes of what there is so many of."""
    ahead = -1
    for index in indexes:
        if not is_whole(index) or not ahead < index < many:
            return False
        ahead = index
    return True


def stands_in(known, name, words):
    """Whether this is a name that stands in one of these rows of the book."""
    return isinstance(name, str) and name in known and known[name][0] in words


def are_things(known, names):
    """Whether all of these are names of things."""
    return all([stands_in(known, name, ("things",)) for name in names])


def is_making(known, value):
    """Whether this is a making."""
    if not isinstance(value, tuple) or len(value) != 4:
        return False
    host, maker, thing, outcome = value
    if not stands_in(known, host, ("hosts",)) or not are_things(known, (maker, thing)):
        return False
    return known[maker][1] == known[host][1] and stands_in(known, outcome, ("things", "scraps"))


def is_note(known, value):
    """Whether this is a note of one of the four kinds."""
    if isinstance(value, tuple) and len(value) == 2 and value[0] == "host":
        return stands_in(known, value[1], ("hosts",))
    return is_about_things(known, value)


def is_claim_of(known, value):
    """Whether this is a claim."""
    if isinstance(value, tuple) and len(value) == 4 and value[0] == "gives":
        return are_things(known, value[1:3]) and stands_in(known, value[3], ("things", "scraps"))
    return is_about_things(known, value)


def is_about_things(known, value):
    """Whether this is what notes and claims can both be: as, apart or right."""
    if not isinstance(value, tuple):
        return False
    if len(value) == 3 and value[0] in ("as", "apart"):
        return are_things(known, value[1:])
    if len(value) == 4 and value[0] == "right":
        return are_things(known, value[1:2]) and is_form(value[2]) and is_form(value[3])
    return False
