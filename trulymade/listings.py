"""Bodies as strings for people: point [8].

What reads a part of a row tells None for what is not so written; is_rule
then tells whether the parts together are a rule.
"""

from trulymade.errors import BadText
from trulymade.rules import Rules, body_for, is_rule


def write_body(body):
    """The string in which the start and the rules of a body are listed."""
    told = Rules(body)
    return "\n".join([f"start {told.start}"] + [rule_text(rule) for rule in told.rules])


def rule_text(rule):
    """The row for a rule."""
    stand, word, items, after = rule
    row = f"{stand} {word}: {items_text(items)}"
    if after is None:
        return row
    return f"{row} > {after}"


def items_text(items):
    """The items of a rule as they stand in its row."""
    if not items:
        return "nothing"
    return ", ".join([item_text(item) for item in items])


def item_text(item):
    """An item as it stands in a row."""
    parts = ["put", *item[1]] if item[0] == "put" else item
    return " ".join([str(part) for part in parts])


def read_body(text):
    """The body without a tail that is written so."""
    if not isinstance(text, str):
        raise BadText(-1)
    rows = text.split("\n")
    start = read_start(rows[0])
    if start is None:
        raise BadText(0)
    rules = []
    for at in range(1, len(rows)):
        rule = read_rule(rows[at])
        if not is_rule(rule):
            raise BadText(at)
        rules.append(rule)
    return body_for(start, rules)


def read_start(row):
    """The sign of a start row."""
    word, _, sign = row.partition(" ")
    return read_sign(sign) if word == "start" else None


def read_rule(row):
    """The rule of a row; no rule, but perhaps a tuple, for what is not so written."""
    head, _, rest = row.partition(": ")
    stand, _, word = head.partition(" ")
    if word == "end":
        return read_sign(stand), word, read_items(rest), None
    items, _, after = rest.partition(" > ")
    return read_sign(stand), read_word(word), read_items(items), read_sign(after)


def read_word(text):
    """The word of a rule that is not for the end."""
    return text if text == "other" else read_sign(text)


def read_items(text):
    """The tuple of the items of a rule."""
    if text == "nothing":
        return ()
    return tuple([read_item(part) for part in text.split(", ")])


def read_item(text):
    """The item that is written so; no item, but a tuple, for what is not so written."""
    word, *signs = text.split(" ")
    row = tuple([read_sign(sign) for sign in signs])
    if word == "put":
        return word, row
    return (word, *row)


def read_sign(text):
    """The sign that is written so, in one or two digits."""
    if not text.isascii() or not text.isdigit() or len(text) > 2:
        return None
    sign = int(text)
    return sign if str(sign) == text else None
