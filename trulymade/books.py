"""Books of makings and notes, and the claims of a book: points [17], [18] and [20]."""

from trulymade.bookparts import (check_doubts, check_makings, check_notes, is_ascending, is_claim_of,
                                 known_names, stands_in)
from trulymade.errors import BadBook, BadClaim, BadFlag, BadKept, BadName, BadPlace
from trulymade.rows import is_whole

# The places of the rows of a book among what it is made of.
THINGS = 0
SCRAPS = 1
HOSTS = 2
MAKINGS = 3
LIES = 6


class Book:
    """A book: what was made of what at which host, and what is trusted."""

    def __init__(self, things, scraps, hosts, makings, notes, doubtful, lies):
        self._known = known_names(things, scraps, hosts)
        check_makings(self._known, makings)
        check_notes(self._known, notes)
        check_doubts(doubtful, lies, len(notes))
        self.things = tuple(things)
        self.scraps = tuple(scraps)
        self.hosts = tuple(hosts)
        self.makings = tuple(makings)
        self.notes = tuple(notes)
        self.doubtful = tuple(doubtful)
        self.lies = lies

    def __eq__(self, other):
        return (isinstance(other, Book) and self.things == other.things and self.scraps == other.scraps
                and self.hosts == other.hosts and self.makings == other.makings and self.notes == other.notes
                and self.doubtful == other.doubtful and self.lies == other.lies)

    def form(self, name):
        """The form of a thing or a host, None for a scrap."""
        if not isinstance(name, str) or name not in self._known:
            raise BadName(name)
        return self._known[name][1]

    def has_thing(self, name):
        """Whether this is the name of a thing of the book."""
        return stands_in(self._known, name, ("things",))

    def has_host(self, name):
        """Whether this is the name of a host of the book."""
        return stands_in(self._known, name, ("hosts",))

    def has_name(self, name):
        """Whether this is a name of the book."""
        return stands_in(self._known, name, ("things", "scraps", "hosts"))

    def has_claim(self, value):
        """Whether this is a claim of the book."""
        return is_claim_of(self._known, value)

    def all_notes(self):
        """The tuple of the indexes of all notes."""
        return tuple(range(len(self.notes)))

    def sure_notes(self):
        """The tuple of the indexes of the notes that are not doubtful."""
        return tuple([at for at in self.all_notes() if at not in self.doubtful])

    def with_thing(self, name, form):
        """The book with one thing more."""
        return self._with(THINGS, self.things + ((name, form),))

    def with_scrap(self, name):
        """The book with one scrap more."""
        return self._with(SCRAPS, self.scraps + (name,))

    def with_host(self, name, form):
        """The book with one host more."""
        return self._with(HOSTS, self.hosts + ((name, form),))

    def with_making(self, making):
        """The book with one making more."""
        return self._with(MAKINGS, self.makings + (making,))

    def with_note(self, note, doubt):
        """The book with one note more, a doubtful or a sure one."""
        if not isinstance(doubt, bool):
            raise BadFlag(doubt)
        doubtful = self.doubtful + (len(self.notes),) if doubt else self.doubtful
        return Book(self.things, self.scraps, self.hosts, self.makings, self.notes + (note,), doubtful, self.lies)

    def without_note(self, at):
        """The book without the note with this index."""
        if not is_whole(at) or not 0 <= at < len(self.notes):
            raise BadPlace(at)
        notes = self.notes[:at] + self.notes[at + 1:]
        doubtful = [index if index < at else index - 1 for index in self.doubtful if index != at]
        lies = min(self.lies, len(doubtful))
        return Book(self.things, self.scraps, self.hosts, self.makings, notes, doubtful, lies)

    def with_lies(self, lies):
        """The book with another number of lies."""
        return self._with(LIES, lies)

    def _parts(self):
        """The list of all that the book is made of."""
        return [self.things, self.scraps, self.hosts, self.makings, self.notes, self.doubtful, self.lies]

    def _with(self, at, part):
        """The book with another part in one of these places."""
        parts = self._parts()
        parts[at] = part
        return Book(*parts)


def check_book(book):
    """This must be a book."""
    if not isinstance(book, Book):
        raise BadBook(book)


def is_claim(book, thing):
    """Whether this is a claim of the book."""
    check_book(book)
    return book.has_claim(thing)


def check_kept(book, kept):
    """This must be a row of ascending indexes of notes."""
    if not isinstance(kept, (list, tuple)) or not is_ascending(kept, len(book.notes)):
        raise BadKept(kept)


def check_claim(book, claim):
    """This must be a claim of the book."""
    if not is_claim(book, claim):
        raise BadClaim(claim)
