"""Making plans and judging them: point [32].

A planned making does not change what is the same among the things of the
book, nor what they are right for: its outcome is a new thing, of the class of
the thing that it is made of. So one closing of the book serves for all of a
plan, and the plan may be longer than a book could be.
"""

from trulymade.names import LETTERS, is_name
from trulymade.rows import is_form


class Planner:
    """A plan that is being made from what is had, step by step."""

    def __init__(self, book, having):
        self._having = having
        self._planned = []
        self._found = {}
        for name, form in book.things:
            self._found.setdefault((having.firsts[name], form), name)
        self._new = [name for name in new_names() if not book.has_name(name)]

    def plan_for(self, first, form):
        """The plan that makes the class, which is had in this form, in it."""
        self._name_for(first, form)
        return tuple(self._planned)

    def _name_for(self, first, form):
        """The name of a thing of the class in this form; it is planned if there is none yet."""
        key = (first, form)
        if key not in self._found:
            source, making_class = self._having.makings[key]
            thing = self._name_for(first, source)
            hand_form = self._having.hand_form(making_class)
            maker = self._name_for(making_class, hand_form)
            outcome = self._new[len(self._planned)]
            self._planned.append((self._having.host_of(hand_form), maker, thing, outcome, form))
            self._found[key] = outcome
        return self._found[key]


def new_names():
    """The list of more names than a book and a plan of each class in each form can have."""
    return ["new" + one + other for one in LETTERS for other in LETTERS]


class Growth:
    """What a closing that does not clash tells of a book that grows by the makings of a plan."""

    def __init__(self, book, having):
        self._book = book
        self._having = having
        self._firsts = {name: having.firsts[name] for name, _ in book.things}
        self._forms = {name: form for name, form in book.things}
        self._given = {}

    def first_of(self, name):
        """The first name of the class of a thing, the new ones too."""
        return self._firsts[name]

    def has_grown(self, value):
        """Whether this is a planned making that can be done now; if so, the book has grown by it."""
        if not isinstance(value, tuple) or len(value) != 5:
            return False
        host, maker, thing, outcome, form = value
        if not self._can_run(host, maker, thing) or not self._leads(maker, thing, form) or not self._is_new(outcome):
            return False
        self._given[(self._firsts[maker], thing)] = True
        self._firsts[outcome] = self._firsts[thing]
        self._forms[outcome] = form
        return True

    def _can_run(self, host, maker, thing):
        """Whether these are a trusted host, a thing of its form and a thing."""
        if not isinstance(host, str) or host not in self._having.trusted:
            return False
        if not self._is_thing(maker) or not self._is_thing(thing):
            return False
        return self._forms[maker] == self._having.trusted[host]

    def _is_thing(self, value):
        """Whether this is the name of a thing, a new one too."""
        return isinstance(value, str) and value in self._forms

    def _leads(self, maker, thing, form):
        """Whether the maker is right from the form of the thing to this form, and has no outcome for the thing."""
        first = self._firsts[maker]
        if not is_form(form) or (self._forms[thing], form) not in self._having.closing.ways(first):
            return False
        if (first, thing) in self._given:
            return False
        return not self._book.has_thing(thing) or not self._having.closing.outcomes(first, thing)

    def _is_new(self, value):
        """Whether this is a name that neither the book nor an earlier making of the plan has."""
        return is_name(value) and value not in self._forms and not self._book.has_name(value)
