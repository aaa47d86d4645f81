"""Whether a maker leads all things of a form to another one: point [13]."""

from trulymade.errors import BadForm, BadThing, TooMany
from trulymade.likeness import heads
from trulymade.outputs import Outputs, signs_to_try, text_of
from trulymade.programs import is_small
from trulymade.rows import SHIFT, body_of, is_form, is_thing, shifted
from trulymade.running import run
from trulymade.search import least_unlike

# How many digits a sign has in a text.
WIDE = 2


def leads(maker, target, thing):
    """Whether it writes, for the row of the thing, a thing of the form target with the same body."""
    if not is_thing(maker):
        raise BadThing(maker)
    if not is_form(target):
        raise BadForm(target)
    if not is_thing(thing):
        raise BadThing(thing)
    outcome = run(maker, thing)
    return is_thing(outcome) and outcome[0] == target and body_of(outcome) == body_of(thing)


def is_right(source, target, thing):
    """Whether this is a small thing that leads every thing of the form source to target."""
    check_forms(source, target)
    return is_small(thing) and first_wrong(thing, source, target) is None


def first_wrong(maker, source, target):
    """The least thing of the form source that the maker does not lead to target, or None."""
    if not is_thing(maker):
        raise BadThing(maker)
    check_forms(source, target)
    if not is_small(maker):
        raise TooMany()
    return least_unlike(Leading(maker, source, target), heads(source))


def check_forms(source, target):
    """Both must be forms."""
    for form in (source, target):
        if not is_form(form):
            raise BadForm(form)


class Leading:
    """A maker as a search compares it with what it should write.

    A state is the maker's stand and how many of the first two signs are
    written. What should stand there already, but is not written yet, is what
    the stand writes at the end, for so it was found right; but for the
    number, the second sign of all, which may be any.
    """

    def __init__(self, maker, source, target):
        self.maker = Outputs(maker)
        self.target = target
        self.by = (target - source) * SHIFT

    def first(self, prefix):
        """The state behind the form and the number, or None if what is written is no such thing."""
        text, stand = self.maker.along(prefix)
        return self._reached(0, text, stand, text_of((self.target, 0)))

    def after(self, state, sign):
        """The state behind one sign more, or None if what is written is wrong there."""
        text, stand = self.maker.move(state[0], sign)
        wanted = self.maker.ending(state[0]) + text_of(shifted((sign,), self.by))
        return self._reached(state[1], text, stand, wanted)

    def signs(self, state):
        """The signs that need to be looked at."""
        return signs_to_try(self.maker.named(state[0]))

    def _reached(self, begun, text, stand, wanted):
        """The state with this stand, or None if the text with its end is not what is wanted."""
        whole = text + self.maker.ending(stand)
        if len(whole) != len(wanted) or without_number(begun, whole) != without_number(begun, wanted):
            return None
        return stand, min(2, begun + len(text) // WIDE)


def without_number(begun, text):
    """The text without the number, if fewer than the first two signs were written ahead of it."""
    if begun == 2:
        return text
    at = (1 - begun) * WIDE
    return text[:at] + text[at + WIDE:]
