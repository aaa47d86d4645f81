"""What follows from kept notes, makings and something said: points [23] and [24]."""

from trulymade.books import check_book, check_claim, check_kept
from trulymade.errors import BadName


class Closing:
    """The facts that follow, and whether they clash.

    A class of things that are the same is known by the one of them that
    leads it. What makers are and give is kept as it was told, each fact for
    the thing of which it was told: it counts for the whole class.
    """

    def __init__(self, book, kept, said):
        check_book(book)
        check_kept(book, kept)
        if said is not None:
            check_claim(book, said)
        self._book = book
        self._kept = tuple(kept)
        self._leaders = {name: name for name, _ in book.things}
        notes = [book.notes[at] for at in kept]
        told = notes + made_facts(book, notes) + ([] if said is None else [said])
        self._rights = [fact[1:] for fact in told if fact[0] == "right"]
        self._gifts = [fact[1:] for fact in told if fact[0] == "gives"]
        for fact in told:
            if fact[0] == "as":
                self._join(fact[1], fact[2])
        while self._join_what_is_led():
            pass
        parted = [fact for fact in told if fact[0] == "apart" and self._one_class(fact[1], fact[2])]
        self._clash = bool(parted) or self._has_two_outcomes() or self._is_unfit() or self._has_two_ways()

    def same(self, a, b):
        """Whether the two things are the same."""
        self._check_things((a, b))
        return self._one_class(a, b)

    def clashes(self):
        """Whether the facts clash."""
        return self._clash

    def has(self, claim):
        """Whether the claim follows."""
        check_claim(self._book, claim)
        if claim[0] == "as":
            return self._one_class(claim[1], claim[2])
        if claim[0] == "right":
            return claim[2:] in self.ways(claim[1])
        if claim[0] == "gives":
            return claim[3] in self.outcomes(claim[1], claim[2])
        return Closing(self._book, self._kept, ("as", claim[1], claim[2])).clashes()

    def ways(self, a):
        """The ascending list of the tuples (source, target) from and to which the thing is right."""
        self._check_things((a,))
        return sorted({(source, target) for b, source, target in self._rights if self._one_class(a, b)})

    def outcomes(self, a, x):
        """The ascending list of all that the one thing gives for the other."""
        self._check_things((a, x))
        return sorted({y for b, read, y in self._gifts if read == x and self._one_class(a, b)})

    def classes(self):
        """The ascending list of the ascending tuples of things that are the same."""
        members = {}
        for name in sorted(self._leaders):
            members.setdefault(self._leaders[name], []).append(name)
        return [tuple(names) for names in members.values()]

    def _check_things(self, names):
        """All must be names of things."""
        for name in names:
            if not self._book.has_thing(name):
                raise BadName(name)

    def _one_class(self, a, b):
        """Whether the two things are in one class."""
        return self._leaders[a] == self._leaders[b]

    def _join(self, a, b):
        """Make one class of those of the two things."""
        joined = self._leaders[b]
        for name in list(self._leaders):
            if self._leaders[name] == joined:
                self._leaders[name] = self._leaders[a]

    def _leadings(self):
        """The list of all (target, x, y) where what is right for x, to target, gives y for it."""
        return [(target, x, y) for a, source, target in self._rights for b, x, y in self._gifts
                if self._one_class(a, b) and self._book.form(x) == source]

    def _join_what_is_led(self):
        """Join what was led to its form with what it was made of: whether anything was joined."""
        for target, x, y in self._leadings():
            if self._book.form(y) == target and not self._one_class(x, y):
                self._join(x, y)
                return True
        return False

    def _is_unfit(self):
        """Whether a right maker gives what is no thing of its target."""
        return any([self._book.form(y) != target for target, x, y in self._leadings()])

    def _has_two_outcomes(self):
        """Whether things of one class give unlike rows for one thing."""
        return any([x == other_x and y != other_y and self._one_class(a, b)
                    for a, x, y in self._gifts for b, other_x, other_y in self._gifts])

    def _has_two_ways(self):
        """Whether things of one class are right from one form to unlike ones."""
        return any([source == other_source and target != other_target and self._one_class(a, b)
                    for a, source, target in self._rights for b, other_source, other_target in self._rights])


def made_facts(book, notes):
    """The list of the facts that makings tell, at hosts for which one of these notes stands."""
    trusted = [note[1] for note in notes if note[0] == "host"]
    return [("gives", *making[1:]) for making in book.makings if making[0] in trusted]
