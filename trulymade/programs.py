"""What the rules of a thing do: points [9] and, for small things, [12]."""

from trulymade.rows import SIGNS, body_of, is_thing, shifted
from trulymade.rules import Rules

MOST_WRITTEN = 20000
SMALL_BODY = 8000
SMALL_RULES = 200


class Program:
    """A thing as it runs: its body, where it begins, and the rules that can be taken."""

    def __init__(self, thing):
        told = Rules(body_of(thing))
        self.body = told.body
        self.start = told.start
        self.taken = {}
        for rule in told.rules:
            self.taken.setdefault((rule[0], rule[1]), rule)

    def rule_for(self, stand, sign):
        """The rule that is taken for a sign in this stand; None where the thing stops."""
        if (stand, sign) in self.taken:
            return self.taken[(stand, sign)]
        return self.taken.get((stand, "other"))

    def rule_at_end(self, stand):
        """The rule that is taken at the end of a row in this stand, or None."""
        return self.taken.get((stand, "end"))


def rule_size(rule, body):
    """How many signs a rule of this body writes when it is taken once."""
    size = 0
    for item in rule[2]:
        if item[0] == "put":
            size += len(item[1])
        elif item[0] == "own":
            # The body has this rule, so it is not empty.
            size += len(body)
        elif rule[1] != "end":
            size += 1
    return size


def rule_signs(rule, sign, body):
    """The list of what a rule of this body writes for a sign, or for None at the end."""
    signs = []
    for item in rule[2]:
        if item[0] == "put":
            signs.extend(item[1])
        elif item[0] == "own":
            signs.extend(own_row(body, item[1], item[2]))
        elif sign is not None:
            signs.append((sign + item[1]) % SIGNS)
    return signs


def own_row(body, first, by):
    """What the item own with these two signs writes for a thing with this body."""
    return shifted((first,) + body[1:], by)


def is_small(value):
    """Whether this is a small thing."""
    if not is_thing(value) or len(value) - 2 > SMALL_BODY:
        return False
    told = Rules(body_of(value))
    if len(told.rules) > SMALL_RULES:
        return False
    return all([rule_size(rule, told.body) <= MOST_WRITTEN for rule in told.rules])
