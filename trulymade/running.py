"""Running a thing on a row, at once or step by step: points [9] to [11]."""

from trulymade.errors import BadRow, BadThing, Finished, NothingDone, TooLong
from trulymade.programs import MOST_WRITTEN, Program, rule_signs, rule_size
from trulymade.rows import is_row, is_thing


def run(thing, row):
    """What the thing writes for this row."""
    return Machine(thing, row).go()


class Machine:
    """A thing on its way along a row."""

    def __init__(self, thing, row):
        if not is_thing(thing):
            raise BadThing(thing)
        if not is_row(row):
            raise BadRow(row)
        self._thing = tuple(thing)
        self._row = tuple(row)
        self._program = Program(self._thing)
        self._at = 0
        self._stand = self._program.start
        self._over = False
        self._written = []
        self._past = []

    @property
    def thing(self):
        """The thing that runs."""
        return self._thing

    @property
    def row(self):
        """The row that it reads."""
        return self._row

    @property
    def at(self):
        """How many signs are read."""
        return self._at

    @property
    def stand(self):
        """The stand that the thing is in."""
        return self._stand

    @property
    def over(self):
        """Whether nothing is left to be done."""
        return self._over

    @property
    def steps(self):
        """How many steps are done, without those that were taken back."""
        return len(self._past)

    @property
    def written(self):
        """What is written so far."""
        return tuple(self._written)

    def step(self):
        """Read the next sign, or do what is to be done at the end."""
        if self._over:
            raise Finished()
        ahead = (self._at, self._stand, len(self._written))
        if self._at < len(self._row):
            self._read(self._row[self._at])
        else:
            self._write(self._program.rule_at_end(self._stand), None)
            self._over = True
        # Only now: a step that is too long must leave nothing behind.
        self._past.append(ahead)

    def back(self):
        """Take the last step back."""
        if not self._past:
            raise NothingDone()
        self._at, self._stand, many = self._past.pop()
        del self._written[many:]
        self._over = False

    def go(self):
        """Do all that is left, and tell what is written then."""
        ahead = len(self._past)
        try:
            while not self._over:
                self.step()
        except TooLong:
            while len(self._past) > ahead:
                self.back()
            raise
        return tuple(self._written)

    def _read(self, sign):
        """Take the rule for this sign; where there is none, the thing stops."""
        rule = self._program.rule_for(self._stand, sign)
        if rule is None:
            self._over = True
            return
        self._write(rule, sign)
        self._at += 1
        self._stand = rule[3]

    def _write(self, rule, sign):
        """Write what the rule writes, if there is one and its signs are not too many."""
        if rule is None:
            return
        # The size comes first: the signs themselves may be very many.
        if len(self._written) + rule_size(rule, self._program.body) > MOST_WRITTEN:
            raise TooLong()
        self._written.extend(rule_signs(rule, sign, self._program.body))
