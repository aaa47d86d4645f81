"""A house: real rows, makings that were really done, and notes: points [35] and [36]."""

from trulymade.answers import answer
from trulymade.bookparts import MOST_HOSTS, MOST_MAKINGS, MOST_SCRAPS, MOST_THINGS
from trulymade.books import Book, check_claim
from trulymade.errors import BadForm, BadName, BadRow, NothingDone, TooMany
from trulymade.names import is_name
from trulymade.programs import is_small
from trulymade.rows import is_form, is_row, is_thing
from trulymade.running import run
from trulymade.worlds import LONGEST_SCRAP, holds_for, makings_come_out


class House:
    """Rows under names, hosts, makings and notes, and the deeds by which they came.

    The book, the dict of the rows and the dict of what bent hosts say are
    never changed, but replaced: so each deed can be taken back.
    """

    def __init__(self):
        self._book = Book((), (), (), (), (), (), 0)
        self._rows = {}
        self._bent = {}
        self._past = []

    def put(self, name, row):
        """Put a row under a name."""
        self._check_put(name, row)
        rows = with_row(self._rows, name, row)
        self._become(with_named(self._book, name, row), rows, self._bent)

    def host(self, name, form):
        """Put a host for things of this form."""
        self._check_new(name)
        if not is_form(form):
            raise BadForm(form)
        if len(self._book.hosts) == MOST_HOSTS:
            raise TooMany()
        self._become(self._book.with_host(name, form), self._rows, self._bent)

    def bend(self, host, maker, thing, row):
        """Let the host say this row for the maker and the thing."""
        self._check_run(host, maker, thing)
        if not is_row(row):
            raise BadRow(row)
        bent = {key: self._bent[key] for key in self._bent}
        bent[(host, maker, thing)] = tuple(row)
        self._become(self._book, self._rows, bent)

    def make(self, host, maker, thing, name):
        """Run the maker on the thing at the host; the name under which what the host says stands then."""
        self._check_run(host, maker, thing)
        row = self._told(host, maker, thing)
        book = self._book
        rows = self._rows
        outcome = self._name_of(row)
        if outcome is None:
            self._check_put(name, row)
            outcome = name
            book = with_named(book, name, row)
            rows = with_row(rows, name, row)
        making = (host, maker, thing, outcome)
        if making not in book.makings:
            if len(book.makings) == MOST_MAKINGS:
                raise TooMany()
            book = book.with_making(making)
        self._become(book, rows, self._bent)
        return outcome

    def note(self, note, doubt):
        """Put a note, a doubtful or a sure one."""
        self._become(self._book.with_note(note, doubt), self._rows, self._bent)

    def withdraw(self, at):
        """Take the note with this index away."""
        self._become(self._book.without_note(at), self._rows, self._bent)

    def allow(self, n):
        """Let so many doubtful notes be false."""
        self._become(self._book.with_lies(n), self._rows, self._bent)

    def undo(self):
        """Take back the last deed that is not taken back yet."""
        if not self._past:
            raise NothingDone()
        self._book, self._rows, self._bent = self._past.pop()

    def book(self):
        """The book of all this."""
        return self._book

    def names(self):
        """The ascending list of all names."""
        return sorted(list(self._rows) + [name for name, _ in self._book.hosts])

    def row_of(self, name):
        """The row of a thing or a scrap."""
        if not isinstance(name, str) or name not in self._rows:
            raise BadName(name)
        return self._rows[name]

    def ask(self, claim):
        """The answer of the book for this claim."""
        return answer(self._book, claim)

    def really(self, claim):
        """Whether a claim of the book holds for the rows."""
        check_claim(self._book, claim)
        return holds_for(self._rows, claim)

    def false_notes(self):
        """The ascending list of the indexes of the notes that do not really hold."""
        return [at for at, note in enumerate(self._book.notes) if not self._really_holds(note)]

    def world(self):
        """The tuple of the false notes, as a tuple, and the rows."""
        return tuple(self.false_notes()), dict(self._rows)

    def trying(self, deed):
        """What the deed returns for this house, which is behind it as it was ahead of it."""
        book = self._book
        rows = self._rows
        bent = self._bent
        past = list(self._past)
        try:
            return deed(self)
        finally:
            self._book, self._rows, self._bent, self._past = book, rows, bent, past

    def _become(self, book, rows, bent):
        """Replace all of this; what it was can be taken back."""
        self._past.append((self._book, self._rows, self._bent))
        self._book, self._rows, self._bent = book, rows, bent

    def _check_new(self, name):
        """This must be a name that the house does not have."""
        if not is_name(name) or self._book.has_name(name):
            raise BadName(name)

    def _check_put(self, name, row):
        """What put asks of a name and a row."""
        self._check_new(name)
        if not is_row(row) or self._name_of(tuple(row)) is not None:
            raise BadRow(row)
        if is_thing(row):
            fits = len(self._book.things) < MOST_THINGS and is_small(row)
        else:
            fits = len(self._book.scraps) < MOST_SCRAPS and len(row) <= LONGEST_SCRAP
        if not fits:
            raise TooMany()

    def _check_run(self, host, maker, thing):
        """These must be a host, a thing of its form, and a thing."""
        if not self._book.has_host(host):
            raise BadName(host)
        for name in (maker, thing):
            if not self._book.has_thing(name):
                raise BadName(name)
        form = self._book.form(maker)
        if form != self._book.form(host):
            raise BadForm(form)

    def _told(self, host, maker, thing):
        """The row that the host says for the maker and the thing."""
        key = (host, maker, thing)
        if key in self._bent:
            return self._bent[key]
        return run(self._rows[maker], self._rows[thing])

    def _name_of(self, row):
        """The name under which this row, a tuple, stands, or None."""
        for name in self._rows:
            if self._rows[name] == row:
                return name
        return None

    def _really_holds(self, note):
        """Whether a note of the book holds for the rows, or its host told the truth in all its makings."""
        if note[0] == "host":
            return makings_come_out(self._book, [note], self._rows)
        return holds_for(self._rows, note)


def with_row(rows, name, row):
    """The dict of these rows and one more."""
    return {**rows, name: tuple(row)}


def with_named(book, name, row):
    """The book with the name of this row, a thing or a scrap, more."""
    return book.with_thing(name, row[0]) if is_thing(row) else book.with_scrap(name)
