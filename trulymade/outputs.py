"""What a thing writes, as strings: the long rows of likeness are compared as wholes.

A text is a string with two digits for each sign of a row.
"""

from trulymade.programs import Program, own_row
from trulymade.rows import SIGNS

STOPPED = -1


def text_of(row):
    """The text of a row."""
    return "".join([f"{sign:02d}" for sign in row])


def part_text(part, sign):
    """The text of a part of a rule: of a number it is that of the sign plus this number."""
    return part if isinstance(part, str) else text_of(((sign + part) % SIGNS,))


class Outputs:
    """What a thing writes and where it then stands, for each of its stands and for STOPPED."""

    def __init__(self, thing):
        program = Program(thing)
        self.start = program.start
        self._program = program
        self._named = {}
        self._pieces = {}
        self._owns = {}
        for stand, word in program.taken:
            self._pieces[(stand, word)] = self._rule_parts(program.taken[(stand, word)])
            if word != "other" and word != "end":
                self._named.setdefault(stand, []).append(word)

    def named(self, stand):
        """The list of the signs for which the stand has a rule of their own."""
        return list(self._named.get(stand, []))

    def move(self, stand, sign):
        """The text that is written for a sign, and the next stand."""
        rule = self._program.rule_for(stand, sign)
        if rule is None:
            return "", STOPPED
        parts = self._pieces[(stand, rule[1])]
        return "".join([part_text(part, sign) for part in parts]), rule[3]

    def ending(self, stand):
        """The text that is written at the end of a row."""
        return "".join(self._pieces.get((stand, "end"), ()))

    def along(self, row):
        """The text that is written for a row ahead of its end, and the stand there."""
        texts = []
        stand = self.start
        for sign in row:
            text, stand = self.move(stand, sign)
            texts.append(text)
        return "".join(texts), stand

    def _rule_parts(self, rule):
        """What a rule writes, in parts: texts, and the number k for the sign that is read plus k."""
        parts = []
        texts = []
        for item in rule[2]:
            if item[0] != "plus":
                texts.append(self._item_text(item))
            elif rule[1] != "end":
                parts.extend(["".join(texts), item[1]])
                texts = []
        return tuple(parts + ["".join(texts)])

    def _item_text(self, item):
        """The text of a put or an own."""
        if item[0] == "put":
            return text_of(item[1])
        if item not in self._owns:
            self._owns[item] = text_of(own_row(self._program.body, item[1], item[2]))
        return self._owns[item]


def signs_to_try(named):
    """The least signs that tell what all signs do, ascending, if there are rules for the named ones.

    Two of the others tell for all of them: they take the same rules, so what
    is written differs by pluses alone, and where a plus meets a sign that
    does not change, the two cannot both be equal.
    """
    others = [sign for sign in range(SIGNS) if sign not in named]
    return sorted(set(named + others[:2]))
