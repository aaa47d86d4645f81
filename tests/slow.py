"""Points [6], [9], [12], [13], [22], [23], [27], [28], [31] and [32] once more, plainly and slowly."""

from itertools import combinations, product

EVERY = tuple(range(100))


def read(body):
    """The start of a body and the list of its rules (stand, kind, sign, items, next)."""
    rules = []
    at = 1
    while True:
        try:
            rule, at = read_rule(body, at)
        except IndexError:
            return (body[0] if body else 0), rules
        rules.append(rule)


def read_rule(body, at):
    stand, kind = body[at], ("sign", "other", "end")[body[at + 1]]
    at += 2
    sign, after = None, None
    if kind == "sign":
        sign = body[at]
        at += 1
    items = []
    many = body[at]
    at += 1
    for _ in range(many):
        item = ("put", "plus", "own")[body[at]]
        if item == "put":
            end = at + 2 + body[at + 1]
            if end > len(body):
                raise IndexError
            items.append(("put", body[at + 2:end]))
            at = end
        elif item == "plus":
            items.append(("plus", body[at + 1]))
            at += 2
        else:
            items.append(("own", body[at + 1], body[at + 2]))
            at += 3
    if kind != "end":
        after = body[at]
        at += 1
    return (stand, kind, sign, items, after), at


def body_of(thing):
    return tuple((sign - 20 * thing[0]) % 100 for sign in thing[2:])


def write(body, items, sign):
    written = ()
    for item in items:
        if item[0] == "put":
            written += item[1]
        elif item[0] == "own":
            written += tuple((own + item[2]) % 100 for own in (item[1],) + body[1:])
        elif sign is not None:
            written += ((sign + item[1]) % 100,)
    return written


def find(rules, stand, kind, sign):
    for rule in rules:
        if rule[:3] == (stand, kind, sign):
            return rule
    return None


class Slow:
    """A thing that runs on a row without any bound."""

    def __init__(self, thing):
        self.body = body_of(thing)
        self.start, self.rules = read(self.body)

    def run(self, row):
        stand = self.start
        written = ()
        for sign in row:
            rule = find(self.rules, stand, "sign", sign) or find(self.rules, stand, "other", None)
            if rule is None:
                return written
            written += write(self.body, rule[3], sign)
            stand = rule[4]
        rule = find(self.rules, stand, "end", None)
        return written + write(self.body, rule[3], None) if rule else written


def first_row(fails, head, signs, most):
    """The least row of at most so many of these signs behind a head for which something fails."""
    for many in range(most + 1):
        for row in product(signs, repeat=many):
            if fails(head + row):
                return head + row
    return None


def leads(slow, target, thing):
    outcome = slow.run(thing)
    return len(outcome) >= 2 and outcome[0] == target and body_of(outcome) == body_of(thing)


def facts(book, kept, said):
    """The set of all facts, and whether they clash."""
    forms = dict(book.things)
    notes = [book.notes[at] for at in kept] + ([] if said is None else [said])
    found = {("as", name, name) for name in forms}
    found |= {note for note in notes if note[0] in ("as", "right", "gives")}
    hosts = [note[1] for note in notes if note[0] == "host"]
    found |= {("gives",) + making[1:] for making in book.makings if making[0] in hosts}
    while True:
        more = set()
        for one in found:
            if one[0] == "as":
                more.add(("as", one[2], one[1]))
            for two in found:
                more |= follows(forms, one, two)
        if more <= found:
            break
        found |= more
    apart = [note for note in notes if note[0] == "apart" and ("as",) + note[1:] in found]
    return found, bool(apart) or any(clash(forms, one, two) for one in found for two in found)


def follows(forms, one, two):
    if one[0] == "as" and two[1] == one[2] and two[0] == "as":
        return {("as", one[1], two[2])}
    if one[0] == "as" and two[1] == one[1] and two[0] != "as":
        return {(two[0], one[2]) + two[2:]}
    if one[0] == "right" and two[0] == "gives" and one[1] == two[1] and forms[two[2]] == one[2]:
        if forms.get(two[3]) == one[3]:
            return {("as", two[3], two[2])}
    return set()


def clash(forms, one, two):
    if one[0] in ("gives", "right") and two[0] == one[0]:
        return one[1:3] == two[1:3] and one[3] != two[3]
    if one[0] == "right" and two[0] == "gives" and one[1] == two[1] and forms[two[2]] == one[2]:
        return forms.get(two[3]) != one[3]
    return False


def let_kepts(book):
    """What is kept without each let lot."""
    return [tuple(at for at in range(len(book.notes)) if at not in lot)
            for lot in combinations(book.doubtful, book.lies)]


def bears(book, kept, claim):
    if claim[0] == "apart":
        return facts(book, kept, ("as",) + claim[1:])[1]
    found, clashes = facts(book, kept, None)
    return clashes or claim in found


def bars(book, kept, claim):
    return facts(book, kept, claim)[1]


def answer(book, claim):
    sure = all(bears(book, kept, claim) for kept in let_kepts(book))
    never = all(bars(book, kept, claim) for kept in let_kepts(book))
    return {(True, True): "broken", (True, False): "sure", (False, True): "never", (False, False): "open"}[sure, never]


def is_chain(book, kept, claim, word, chain):
    """Of a tuple of tuples (fact, reason), in which all are tuples of strings and integers that are no flags."""
    if (word == "bears") == (claim[0] == "apart"):
        said = ("as",) + claim[1:] if claim[0] == "apart" else claim
        lasts = [("clash",)]
    else:
        said = None
        lasts = [("clash",), ("as",) + claim[1:] if claim[0] == "apart" else claim]
    known = []
    for fact, reason in chain:
        if fact != ("clash",) and (fact[0] not in ("as", "right", "gives") or not book.has_claim(fact)):
            return False
        try:
            good = stands(book, kept, said, known, fact, reason)
        except (IndexError, ValueError, TypeError):
            return False
        if not good:
            return False
        known.append(fact)
    return known != [] and known[-1] in lasts


def stands(book, kept, said, known, fact, reason):
    word, *rest = reason
    if min([at for at in rest] + [0]) < 0:
        return False
    if word in ("note", "made", "against") and rest[-1] not in kept:
        return False
    forms = dict(book.things)
    one = known[rest[0]] if word not in ("note", "made", "self", "said") else None
    other = known[rest[1]] if word in ("join", "carry", "led", "two", "unfit", "ways") else None
    if len(rest) != {"self": 0, "said": 0, "note": 1, "turn": 1}.get(word, 2):
        return False
    if word in ("self", "said", "note"):
        return {"self": fact[0] == "as" and fact[1:2] == fact[2:], "said": said is not None and fact == said,
                "note": word == "note" and fact == book.notes[rest[0]]}[word]
    if word == "made":
        making = book.makings[rest[0]]
        return book.notes[rest[1]] == ("host", making[0]) and fact == ("gives",) + making[1:]
    if word == "against":
        note = book.notes[rest[1]]
        return one[0] == "as" and note[0] == "apart" and sorted(one[1:]) == sorted(note[1:]) and fact == ("clash",)
    if word == "turn":
        return one[0] == "as" and fact == ("as", one[2], one[1])
    if word == "join":
        return one[0] == other[0] == "as" and one[2] == other[1] and fact == ("as", one[1], other[2])
    if word == "carry":
        return (one[0] == "as" and other[0] in ("right", "gives") and one[1] == other[1]
                and fact == (other[0], one[2]) + other[2:])
    if word in ("two", "ways"):
        kind = {"two": "gives", "ways": "right"}[word]
        return (one[0] == other[0] == kind and one[1:3] == other[1:3] and one[3] != other[3]
                and fact == ("clash",))
    if (one[0], other[0]) != ("right", "gives") or one[1] != other[1] or forms[other[2]] != one[2]:
        return False
    fitting = forms.get(other[3]) == one[3]
    return {"led": fitting and fact == ("as", other[3], other[2]), "unfit": not fitting and fact == ("clash",)}[word]


def had(book, kept):
    """As point [31] has it, a class known by the set of its things."""
    found = facts(book, kept, None)[0]
    forms = dict(book.things)
    classes = {name: frozenset(b for b in forms if ("as", name, b) in found) for name in forms}
    trusted = [form for host, form in book.hosts if ("host", host) in [book.notes[at] for at in kept]]
    ways = {(classes[fact[1]],) + fact[2:] for fact in found if fact[0] == "right"}
    depths = {(classes[name], form): 0 for name, form in book.things}
    while True:
        more = dict(depths)
        for maker, source, target in ways:
            for made in set(classes.values()):
                at_hand = [depths[maker, form] for form in trusted if (maker, form) in depths]
                if at_hand and (made, source) in depths:
                    depth = 1 + max(min(at_hand), depths[made, source])
                    more[made, target] = min(depth, more.get((made, target), depth))
        if more == depths:
            return {(name, form): depths[classes[name], form]
                    for name in forms for form in range(5) if (classes[name], form) in depths}
        depths = more


def is_plan(book, kept, name, form, planned):
    """Of a tuple of tuples of four names and a form; each grown book is closed anew."""
    things, makings = list(book.things), list(book.makings)
    hosts = dict(book.hosts)
    trusted = [host for host in hosts if ("host", host) in [book.notes[at] for at in kept]]
    taken = [*dict(things), *book.scraps, *hosts]
    for host, maker, thing, outcome, target in planned:
        forms = dict(things)
        if host not in trusted or maker not in forms or thing not in forms or forms[maker] != hosts[host]:
            return False
        found = facts(Grown(book, things, makings), kept, None)[0]
        if ("right", maker, forms[thing], target) not in found or outcome in taken:
            return False
        if any(fact[:3] == ("gives", maker, thing) for fact in found):
            return False
        last = target == form and ("as", name, thing) in found
        things.append((outcome, target))
        makings.append((host, maker, thing, outcome))
        taken.append(outcome)
    if not planned:
        found = facts(book, kept, None)[0]
        return any(("as", name, other) in found and own == form for other, own in things)
    return last


class Grown:
    """A book as facts reads it, without the bounds of a book."""

    def __init__(self, book, things, makings):
        self.things, self.makings, self.notes = things, makings, book.notes
