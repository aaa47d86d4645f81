"""Points [6], [9], [12], [13] and [23] once more, as plainly and slowly as their words say."""

from itertools import product

EVERY = tuple(range(100))


def read(body):
    """The start of a body and the list of its rules (stand, kind, sign, items, next)."""
    rules = []
    at = 1
    while True:
        try:
            rule, at = read_rule(body, at)
        except IndexError:
            return (body[0] if body else 0), rules
        rules.append(rule)


def read_rule(body, at):
    stand, kind = body[at], ("sign", "other", "end")[body[at + 1]]
    at += 2
    sign, after = None, None
    if kind == "sign":
        sign = body[at]
        at += 1
    items = []
    many = body[at]
    at += 1
    for _ in range(many):
        item = ("put", "plus", "own")[body[at]]
        if item == "put":
            end = at + 2 + body[at + 1]
            if end > len(body):
                raise IndexError
            items.append(("put", body[at + 2:end]))
            at = end
        elif item == "plus":
            items.append(("plus", body[at + 1]))
            at += 2
        else:
            items.append(("own", body[at + 1], body[at + 2]))
            at += 3
    if kind != "end":
        after = body[at]
        at += 1
    return (stand, kind, sign, items, after), at


def body_of(thing):
    return tuple((sign - 20 * thing[0]) % 100 for sign in thing[2:])


def write(body, items, sign):
    written = ()
    for item in items:
        if item[0] == "put":
            written += item[1]
        elif item[0] == "own":
            written += tuple((own + item[2]) % 100 for own in (item[1],) + body[1:])
        elif sign is not None:
            written += ((sign + item[1]) % 100,)
    return written


def find(rules, stand, kind, sign):
    for rule in rules:
        if rule[:3] == (stand, kind, sign):
            return rule
    return None


class Slow:
    """A thing that runs on a row without any bound."""

    def __init__(self, thing):
        self.body = body_of(thing)
        self.start, self.rules = read(self.body)

    def run(self, row):
        stand = self.start
        written = ()
        for sign in row:
            rule = find(self.rules, stand, "sign", sign) or find(self.rules, stand, "other", None)
            if rule is None:
                return written
            written += write(self.body, rule[3], sign)
            stand = rule[4]
        rule = find(self.rules, stand, "end", None)
        return written + write(self.body, rule[3], None) if rule else written


def first_row(fails, head, signs, most):
    """The least row of at most so many of these signs behind a head for which something fails."""
    for many in range(most + 1):
        for row in product(signs, repeat=many):
            if fails(head + row):
                return head + row
    return None


def leads(slow, target, thing):
    outcome = slow.run(thing)
    return len(outcome) >= 2 and outcome[0] == target and body_of(outcome) == body_of(thing)


def facts(book, kept, said):
    """The set of all facts, and whether they clash."""
    forms = dict(book.things)
    notes = [book.notes[at] for at in kept] + ([] if said is None else [said])
    found = {("as", name, name) for name in forms}
    found |= {note for note in notes if note[0] in ("as", "right", "gives")}
    hosts = [note[1] for note in notes if note[0] == "host"]
    found |= {("gives",) + making[1:] for making in book.makings if making[0] in hosts}
    while True:
        more = set()
        for one in found:
            if one[0] == "as":
                more.add(("as", one[2], one[1]))
            for two in found:
                more |= follows(forms, one, two)
        if more <= found:
            break
        found |= more
    apart = [note for note in notes if note[0] == "apart" and ("as",) + note[1:] in found]
    return found, bool(apart) or any(clash(forms, one, two) for one in found for two in found)


def follows(forms, one, two):
    if one[0] == "as" and two[1] == one[2] and two[0] == "as":
        return {("as", one[1], two[2])}
    if one[0] == "as" and two[1] == one[1] and two[0] != "as":
        return {(two[0], one[2]) + two[2:]}
    if one[0] == "right" and two[0] == "gives" and one[1] == two[1] and forms[two[2]] == one[2]:
        if forms.get(two[3]) == one[3]:
            return {("as", two[3], two[2])}
    return set()


def clash(forms, one, two):
    if one[0] in ("gives", "right") and two[0] == one[0]:
        return one[1:3] == two[1:3] and one[3] != two[3]
    if one[0] == "right" and two[0] == "gives" and one[1] == two[1] and forms[two[2]] == one[2]:
        return forms.get(two[3]) != one[3]
    return False
