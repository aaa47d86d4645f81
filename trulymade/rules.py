"""Reading a body as a start and rules, and writing it: points [6] and [7].

A place is an index in a body. What reads something at a place tells it with
the place behind it, or None if it does not stand there whole.
"""

from trulymade.errors import BadRow, BadRule, BadSign
from trulymade.rows import is_row, is_sign

MOST = 99


class Rules:
    """A body as it is read: a start, rules, and a tail that is no rule."""

    def __init__(self, body):
        if not is_row(body):
            raise BadRow(body)
        self.body = tuple(body)
        self.start = self.body[0] if self.body else 0
        self.rules, self.tail = rules_and_tail(self.body)

    def __eq__(self, other):
        return isinstance(other, Rules) and self.body == other.body


def rules_and_tail(body):
    """The tuple of the rules behind the start, and what is left behind them."""
    rules = []
    at = 1
    told = rule_at(body, at)
    while told is not None:
        rule, at = told
        rules.append(rule)
        told = rule_at(body, at)
    return tuple(rules), body[at:]


def rule_at(body, at):
    """The rule at this place, and the place behind it."""
    told = word_at(body, at + 1)
    if told is None:
        return None
    word, at_items = told
    told = items_at(body, at_items)
    if told is None:
        return None
    items, end = told
    if word == "end":
        return (body[at], word, items, None), end
    if end == len(body):
        return None
    return (body[at], word, items, body[end]), end + 1


def word_at(body, at):
    """The word at this place, and the place behind it."""
    head = body[at:at + 2]
    if head[:1] == (2,):
        return "end", at + 1
    if head[:1] == (1,):
        return "other", at + 1
    if len(head) == 2 and head[0] == 0:
        return head[1], at + 2
    return None


def items_at(body, at):
    """The items whose count stands at this place, and the place behind the last one."""
    if at == len(body):
        return None
    items = []
    end = at + 1
    for _ in range(body[at]):
        told = item_at(body, end)
        if told is None:
            return None
        item, end = told
        items.append(item)
    return tuple(items), end


def item_at(body, at):
    """The item at this place, and the place behind it."""
    head = body[at:at + 3]
    if len(head) >= 2 and head[0] == 0:
        end = at + 2 + head[1]
        if end <= len(body):
            return ("put", body[at + 2:end]), end
    if len(head) >= 2 and head[0] == 1:
        return ("plus", head[1]), at + 2
    if len(head) == 3 and head[0] == 2:
        return ("own", head[1], head[2]), at + 3
    return None


def body_for(start, rules):
    """The body without a tail that has this start and these rules."""
    if not is_sign(start):
        raise BadSign(start)
    if not isinstance(rules, (list, tuple)):
        raise BadRule(-1)
    body = [start]
    for at, rule in enumerate(rules):
        if not is_rule(rule):
            raise BadRule(at)
        body.extend(rule_signs(rule))
    return tuple(body)


def is_rule(value):
    """Whether this is a rule, in which rows and rows of items may be lists."""
    if not isinstance(value, tuple) or len(value) != 4:
        return False
    stand, word, items, after = value
    if not is_sign(stand) or not is_items(items):
        return False
    if word == "end":
        return after is None
    return (word == "other" or is_sign(word)) and is_sign(after)


def is_items(value):
    """Whether this is a row of items that one rule can have."""
    if not isinstance(value, (list, tuple)) or len(value) > MOST:
        return False
    for item in value:
        if not is_item(item):
            return False
    return True


def is_item(value):
    """Whether this is an item, in which the row of a put may be a list."""
    if not isinstance(value, tuple):
        return False
    if len(value) == 2 and value[0] == "put":
        return is_row(value[1]) and len(value[1]) <= MOST
    if len(value) == 2 and value[0] == "plus":
        return is_sign(value[1])
    if len(value) == 3 and value[0] == "own":
        return is_sign(value[1]) and is_sign(value[2])
    return False


def rule_signs(rule):
    """The list of the signs by which a rule is written in a body."""
    stand, word, items, after = rule
    signs = [stand] + word_signs(word) + [len(items)]
    for item in items:
        signs.extend(item_signs(item))
    if after is not None:
        signs.append(after)
    return signs


def word_signs(word):
    """The list of the signs by which a word is written in a body."""
    if word == "end":
        return [2]
    if word == "other":
        return [1]
    return [0, word]


def item_signs(item):
    """The list of the signs by which an item is written in a body."""
    if item[0] == "put":
        return [0, len(item[1]), *item[1]]
    if item[0] == "plus":
        return [1, item[1]]
    return [2, item[1], item[2]]
