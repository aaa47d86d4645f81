"""Making makers, honest and twisted, and letting them make: points [14] to [16].

A body that is made here reads the form in the stand START and the number in
the stand FORMED plus the form; it writes nothing ahead of the number, as only
with it there is a thing. Then it copies in the stand COPYING plus the form,
or is in the stand DONE, which has no rules.
"""

from trulymade.errors import BadCount, BadOthers, BadParts, BadThing
from trulymade.rows import FORMS, SHIFT, SIGNS, is_form, is_row, is_sign, is_thing, is_whole
from trulymade.rules import MOST, body_for
from trulymade.running import run

START = 0
FORMED = 1
COPYING = 6
DONE = 11
MOST_SIGNS = 500
MOST_ROUNDS = 10


def maker(parts):
    """A body that leads the things of each source to its target."""
    check_parts(parts)
    return body_for(START, made_rules(parts, {}))


def twisted(parts, others):
    """A body that does so, but for the things with a form and a number among the others."""
    check_parts(parts)
    check_others(others)
    return body_for(START, made_rules(parts, others))


def made_rules(parts, others):
    """The list of the rules; those of the others come first, so that they are taken."""
    rules = form_rules(parts, others)
    for form, number in sorted(others):
        rules.append((FORMED + form, number, answer_items(others[(form, number)]), DONE))
    for source in sorted(parts):
        rules.extend(part_rules(source, parts[source]))
    return rules


def form_rules(parts, others):
    """The list of the rules that read the forms of which anything is to be written."""
    twisted_forms = [form for form, _ in others]
    forms = [form for form in range(FORMS) if form in parts or form in twisted_forms]
    return [(START, form, (), FORMED + form) for form in forms]


def part_rules(source, part):
    """The list of the rules that write the number and then copy."""
    target, number, numbers = part
    stand = FORMED + source
    copying = COPYING + source
    rules = [(stand, sign, (("put", (target, numbers[sign])),), copying) for sign in sorted(numbers)]
    rules.append((stand, "other", (("put", (target, number)),), copying))
    rules.append((copying, "other", (("plus", (target - source) * SHIFT % SIGNS),), copying))
    return rules


def answer_items(answer):
    """The items that write a row, or the thing itself with another form and number."""
    if is_row(answer):
        return [("put", answer[at:at + MOST]) for at in range(0, len(answer), MOST)]
    _, form, number = answer
    return [("put", (form, number)), ("own", START, SHIFT * form)]


def check_parts(parts):
    """What maker asks of its parts."""
    if not isinstance(parts, dict):
        raise BadParts(-1)
    for key in parts:
        if not is_form(key) or not is_part(parts[key]):
            raise BadParts(key)


def is_part(value):
    """Whether this is a tuple of a form, a sign and a dict from signs to signs."""
    if not isinstance(value, tuple) or len(value) != 3:
        return False
    target, number, numbers = value
    if not is_form(target) or not is_sign(number) or not isinstance(numbers, dict):
        return False
    return all([is_sign(key) and is_sign(numbers[key]) for key in numbers])


def check_others(others):
    """What twisted asks of its others."""
    if not isinstance(others, dict):
        raise BadOthers(-1)
    for key in others:
        if not is_head(key) or not is_answer(others[key]):
            raise BadOthers(key)


def is_head(value):
    """Whether this is a tuple of a form and a sign."""
    return isinstance(value, tuple) and len(value) == 2 and is_form(value[0]) and is_sign(value[1])


def is_answer(value):
    """Whether this is a row that is not too long, or a tuple that stands for the thing itself."""
    if is_row(value):
        return len(value) <= MOST_SIGNS
    return isinstance(value, tuple) and len(value) == 3 and value[0] == "itself" and is_head(value[1:])


def rounds(maker, thing, many):
    """The list of what the maker makes of the thing, what this makes of the thing, and so on."""
    for value in (maker, thing):
        if not is_thing(value):
            raise BadThing(value)
    if not is_whole(many) or not 1 <= many <= MOST_ROUNDS:
        raise BadCount(many)
    found = [run(maker, thing)]
    while len(found) < many and is_thing(found[-1]):
        found.append(run(found[-1], thing))
    return found
