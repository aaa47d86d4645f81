"""Whether two things write the same for every row: point [12]."""

from trulymade.errors import BadForm, BadSign, BadThing, TooMany
from trulymade.outputs import Outputs, signs_to_try
from trulymade.programs import is_small
from trulymade.rows import SIGNS, is_form, is_sign, is_thing
from trulymade.search import least_unlike, unlike_prefixes


def alike(one, other):
    """Whether they write the same for every row."""
    return apart(one, other) is None


def apart(one, other):
    """The least row for which they write unlike rows, or None."""
    check_things(one, other)
    return least_unlike(Pairs(one, other), [()])


def apart_form(one, other, form):
    """The least thing of the form for which they write unlike rows, or None."""
    check_things_and_form(one, other, form)
    return least_unlike(Pairs(one, other), heads(form))


def twists(one, other, form):
    """The list of the numbers of the things of the form for which they write unlike rows."""
    check_things_and_form(one, other, form)
    return [number for _, number in unlike_prefixes(Pairs(one, other), heads(form))]


def apart_at(one, other, form, number):
    """The least thing of the form with the number for which they write unlike rows, or None."""
    check_things_and_form(one, other, form)
    if not is_sign(number):
        raise BadSign(number)
    return least_unlike(Pairs(one, other), [(form, number)])


def check_things(one, other):
    """Both must be things, and small."""
    for thing in (one, other):
        if not is_thing(thing):
            raise BadThing(thing)
    if not is_small(one) or not is_small(other):
        raise TooMany()


def check_things_and_form(one, other, form):
    """The things first, then the form."""
    check_things(one, other)
    if not is_form(form):
        raise BadForm(form)


def heads(form):
    """The list of the first two signs of all things of a form, ascending."""
    return [(form, number) for number in range(SIGNS)]


class Pairs:
    """Two things as a search compares them: a state is the pair of their stands.

    As both wrote the same for each row so far, its end included, the pair
    alone tells which one has written more ahead of the end, and what.
    """

    def __init__(self, one, other):
        self.one = Outputs(one)
        self.other = Outputs(other)

    def first(self, prefix):
        """The pair behind a prefix, or None if they write unlike rows for it."""
        text, stand = self.one.along(prefix)
        other_text, other_stand = self.other.along(prefix)
        return self._reached(text, stand, other_text, other_stand)

    def after(self, pair, sign):
        """The pair behind one sign more, or None if they write unlike rows there."""
        text, stand = self.one.move(pair[0], sign)
        other_text, other_stand = self.other.move(pair[1], sign)
        ahead, other_ahead = self._ahead(pair)
        return self._reached(ahead + text, stand, other_ahead + other_text, other_stand)

    def signs(self, pair):
        """The signs that need to be looked at."""
        return signs_to_try(self.one.named(pair[0]) + self.other.named(pair[1]))

    def _ahead(self, pair):
        """What each one has written more than the other: one of these texts is empty."""
        end = self.one.ending(pair[0])
        other_end = self.other.ending(pair[1])
        more = len(other_end) - len(end)
        if more > 0:
            return other_end[:more], ""
        return "", end[:-more]

    def _reached(self, text, stand, other_text, other_stand):
        """The pair of these stands, or None if the texts with their ends are unlike."""
        whole = text + self.one.ending(stand)
        other_whole = other_text + self.other.ending(other_stand)
        return (stand, other_stand) if whole == other_whole else None
