"""Worlds of a book, built from closings that do not clash: points [22] and [26].

All things of such a world share the rules of one body, and those of one class
the start, too. From its start a class reads the form, then the number: by
these it knows the things of the book. For one with an outcome it writes this.
For other things of a form for which the class is right it writes what is no
row of the book, as the number is the class's own, and then copies. For
everything else it writes a scrap of its own.
"""

from trulymade.books import check_book, check_claim
from trulymade.closing import Closing
from trulymade.letting import kept_without, let_lots
from trulymade.rows import FORMS, SHIFT, thing_of
from trulymade.rules import body_for

# The stands: the starts of the classes, those behind the forms, those that copy, and one without rules.
BEHIND_FORMS = 16
COPYING = 90
DONE = 99

# The numbers of what classes lead without an outcome; those of the things of the book are less.
CLASS_NUMBERS = 50

# The first signs of scraps: those of the book, and those that a class writes.
BOOK_SCRAP = 99
CLASS_SCRAP = 98


def some_world(book):
    """A world of the book, or None."""
    check_book(book)
    return first_world(book, None, None)


def world_with(book, claim):
    """A world of the book in which the claim holds, or None."""
    check_claim(book, claim)
    return first_world(book, claim, None)


def world_without(book, claim):
    """A world of the book in which the claim does not hold, or None."""
    check_claim(book, claim)
    if claim[0] == "apart":
        return first_world(book, ("as", claim[1], claim[2]), None)
    return first_world(book, None, claim)


def first_world(book, said, unwanted):
    """A world in which what is said holds and the unwanted claim, unless it is None, does not follow; or None."""
    for lot in let_lots(book):
        closing = Closing(book, kept_without(book, lot), said)
        if not closing.clashes() and (unwanted is None or not closing.has(unwanted)):
            return lot, Building(book, closing).rows()
    return None


class Building:
    """The rows in which just the facts of a closing that does not clash hold."""

    def __init__(self, book, closing):
        self._book = book
        self._closing = closing
        self._groups = closing.classes()
        self._numbers = {name: number for number, (name, _) in enumerate(book.things)}
        self._starts = {name: start for start, group in enumerate(self._groups) for name in group}
        self._rows = {name: (BOOK_SCRAP, number) for number, name in enumerate(book.scraps)}

    def rows(self):
        """The dict from all names of things and scraps to their rows."""
        rules = []
        stand = BEHIND_FORMS
        for group in self._groups:
            known = self._known_forms(group[0])
            rules.extend(self._start_rules(group[0], known, stand))
            for form in known:
                rules.extend(self._form_rules(group[0], form, stand))
                stand += 1
        rules.extend([(COPYING + by, "other", (("plus", by * SHIFT),), COPYING + by) for by in range(FORMS)])
        shared = body_for(0, rules)[1:]
        rows = {name: thing_of(form, self._numbers[name], (self._starts[name],) + shared)
                for name, form in self._book.things}
        rows.update(self._rows)
        return rows

    def _known_forms(self, a):
        """The ascending list of the forms for which the class of a thing is right or gives something."""
        forms = [source for source, _ in self._closing.ways(a)]
        forms.extend([form for x, form in self._book.things if self._closing.outcomes(a, x)])
        return sorted(set(forms))

    def _start_rules(self, a, known, stand):
        """The rules of the class of a thing for the first sign; the stands for the known forms follow one another."""
        start = self._starts[a]
        rules = [(start, form, (), stand + at) for at, form in enumerate(known)]
        return rules + [(start, "other", self._own_scrap(a), DONE)]

    def _form_rules(self, a, form, stand):
        """The rules of the class of a thing for the number, in the stand behind a form."""
        target = self._target(a, form)
        rules = []
        for x, own_form in self._book.things:
            if own_form == form:
                rules.extend([(stand, self._numbers[x]) + self._giving(y, form, target)
                              for y in self._closing.outcomes(a, x)])
        if target is None:
            return rules + [(stand, "other", self._own_scrap(a), DONE)]
        number = CLASS_NUMBERS + self._starts[a]
        return rules + [(stand, "other") + copying(form, target, number)]

    def _target(self, a, form):
        """The form to which the class of a thing is right from this form, or None."""
        targets = [target for source, target in self._closing.ways(a) if source == form]
        return targets[0] if targets else None

    def _giving(self, y, form, target):
        """The items that write the row y for a thing of this form, and the next stand."""
        if target is not None:
            return copying(form, target, self._numbers[y])
        if y in self._rows:
            return (("put", self._rows[y]),), DONE
        own_form = self._book.form(y)
        items = (("put", (own_form, self._numbers[y])), ("own", self._starts[y], SHIFT * own_form))
        return items, DONE

    def _own_scrap(self, a):
        """The items that write the scrap of the class of a thing."""
        return (("put", (CLASS_SCRAP, self._starts[a])),)


def copying(form, target, number):
    """The items that begin a thing of the form target with this number, and the stand that copies the body."""
    return (("put", (target, number)),), COPYING + (target - form) % FORMS
