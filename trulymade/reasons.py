"""How one fact follows from others: points [23] and [27].

Each function takes a book and the tuple of what a reason names, facts of
earlier steps, notes and makings, and tells the fact that follows, or None.
"""

CLASH = ("clash",)


def noted(book, told):
    """What a note tells."""
    note = told[0]
    return note if note[0] in ("as", "right") else None


def made(book, told):
    """What a making tells, as there is a note for its host."""
    making, note = told
    return ("gives",) + making[1:] if note == ("host", making[0]) else None


def turned(book, told):
    """The two that are the same, the other way round."""
    one = told[0]
    return ("as", one[2], one[1]) if one[0] == "as" else None


def joined(book, told):
    """The outer two of which each is the same as what stands in the middle."""
    one, other = told
    if one[0] != "as" or other[0] != "as" or one[2] != other[1]:
        return None
    return "as", one[1], other[2]


def carried(book, told):
    """What a maker is or gives, for one that is the same."""
    one, other = told
    if one[0] != "as" or other[0] not in ("right", "gives") or one[1] != other[1]:
        return None
    return (other[0], one[2]) + other[2:]


def is_led(book, told):
    """Whether these are the facts that a maker is right and that it gives something for a thing of its source."""
    right, gift = told
    return right[0] == "right" and gift[0] == "gives" and right[1] == gift[1] and book.form(gift[2]) == right[2]


def led(book, told):
    """What a right maker made of a thing is the same as the thing."""
    if not is_led(book, told) or book.form(told[1][3]) != told[0][3]:
        return None
    return "as", told[1][3], told[1][2]


def unfit(book, told):
    """What a right maker gave is no thing of its target."""
    if not is_led(book, told) or book.form(told[1][3]) == told[0][3]:
        return None
    return CLASH


def two(book, told):
    """A maker gave unlike rows for one thing."""
    return clash_of_two("gives", told)


def two_ways(book, told):
    """A maker is right from one form to unlike ones."""
    return clash_of_two("right", told)


def clash_of_two(word, told):
    """The clash of two facts with this word that differ in the last item alone."""
    one, other = told
    if one[0] != word or other[0] != word or one[1:3] != other[1:3] or one[3] == other[3]:
        return None
    return CLASH


def against(book, told):
    """Two are the same, and a note says that they are not."""
    one, note = told
    if one[0] != "as" or note not in (("apart", one[1], one[2]), ("apart", one[2], one[1])):
        return None
    return CLASH


# What the indexes of a reason are indexes of.
KINDS = {
    "note": ("note",), "self": (), "turn": ("step",), "join": ("step", "step"), "made": ("making", "note"),
    "carry": ("step", "step"), "led": ("step", "step"), "two": ("step", "step"), "unfit": ("step", "step"),
    "ways": ("step", "step"), "against": ("step", "note"), "said": (),
}

# What follows from what a reason names; "self" and "said" name nothing.
RULES = {
    "note": noted, "turn": turned, "join": joined, "made": made, "carry": carried, "led": led, "two": two,
    "unfit": unfit, "ways": two_ways, "against": against,
}


def follows(book, said, word, told, fact):
    """Whether the fact follows by this word from what is told, where said, unless it is None, is said."""
    if word == "self":
        return fact[0] == "as" and fact[1] == fact[2]
    if word == "said":
        return fact == said
    rule = RULES[word]
    return rule(book, told) == fact
