"""What follows from kept notes, makings and something said: points [23] and [24]."""

from trulymade.books import check_book, check_claim, check_kept
from trulymade.errors import BadName
from trulymade.rows import FORMS


class Closing:
    """The facts that follow, and whether they clash.

    A class of things that are the same is known by the one of them that
    leads it. What makers are and give counts for the whole class, so it is
    kept under the leader.
    """

    def __init__(self, book, kept, said):
        check_book(book)
        check_kept(book, kept)
        if said is not None:
            check_claim(book, said)
        self._book = book
        self._kept = tuple(kept)
        self._leaders = {name: name for name, _ in book.things}
        notes = [book.notes[at] for at in kept]
        told = notes + made_facts(book, notes) + ([] if said is None else [said])
        rights = [fact[1:] for fact in told if fact[0] == "right"]
        gifts = [fact[1:] for fact in told if fact[0] == "gives"]
        for fact in told:
            if fact[0] == "as":
                self._join(fact[1], fact[2])
        while self._join_what_is_led(rights, gifts):
            pass
        self._targets = self._by_class(rights)
        self._gifts = self._by_class(gifts)
        parted = [fact for fact in told if fact[0] == "apart" and self._one_class(fact[1], fact[2])]
        self._clash = bool(parted) or self._has_two_of_one() or self._is_unfit(gifts)

    def same(self, a, b):
        """Whether the two things are the same."""
        self._check_things((a, b))
        return self._one_class(a, b)

    def clashes(self):
        """Whether the facts clash."""
        return self._clash

    def has(self, claim):
        """Whether the claim follows."""
        check_claim(self._book, claim)
        if claim[0] == "as":
            return self._one_class(claim[1], claim[2])
        if claim[0] == "right":
            return claim[2:] in self.ways(claim[1])
        if claim[0] == "gives":
            return claim[3] in self.outcomes(claim[1], claim[2])
        return not self.allows(("as", claim[1], claim[2]))

    def allows(self, claim):
        """Whether the same kept notes do not clash if this claim is said instead of what was said."""
        return not Closing(self._book, self._kept, claim).clashes()

    def ways(self, a):
        """The ascending list of the tuples (source, target) from and to which the thing is right."""
        self._check_things((a,))
        leader = self._leaders[a]
        return [(source, target) for source in range(FORMS)
                for target in sorted(self._targets.get((leader, source), {}))]

    def outcomes(self, a, x):
        """The ascending list of all that the one thing gives for the other."""
        self._check_things((a, x))
        return sorted(self._gifts.get((self._leaders[a], x), {}))

    def classes(self):
        """The ascending list of the ascending tuples of things that are the same."""
        members = {}
        for name in sorted(self._leaders):
            members.setdefault(self._leaders[name], []).append(name)
        return [tuple(names) for names in members.values()]

    def _check_things(self, names):
        """All must be names of things."""
        for name in names:
            if not self._book.has_thing(name):
                raise BadName(name)

    def _one_class(self, a, b):
        """Whether the two things are in one class."""
        return self._leaders[a] == self._leaders[b]

    def _join(self, a, b):
        """Make one class of those of the two things."""
        leader = self._leaders[a]
        joined = self._leaders[b]
        for name in list(self._leaders):
            if self._leaders[name] == joined:
                self._leaders[name] = leader

    def _by_class(self, facts):
        """A dict from the tuples (leader, second) of facts (a, second, third) to dicts that have all their thirds."""
        found = {}
        for a, second, third in facts:
            found.setdefault((self._leaders[a], second), {})[third] = True
        return found

    def _targets_for(self, targets, a, x):
        """The dict of the targets to which the thing a is right from the form of x."""
        return targets.get((self._leaders[a], self._book.form(x)), {})

    def _join_what_is_led(self, rights, gifts):
        """Join what was led to its form with what it was made of: whether anything was joined."""
        joined = False
        targets = self._by_class(rights)
        for a, x, y in gifts:
            if self._book.form(y) in self._targets_for(targets, a, x) and not self._one_class(x, y):
                self._join(x, y)
                joined = True
        return joined

    def _has_two_of_one(self):
        """Whether things of one class give unlike rows for one thing, or are right from one form to unlike ones."""
        found = list(self._targets.values()) + list(self._gifts.values())
        return any([len(thirds) > 1 for thirds in found])

    def _is_unfit(self, gifts):
        """Whether a right maker gives what is no thing of its target."""
        return any([target != self._book.form(y)
                    for a, x, y in gifts for target in self._targets_for(self._targets, a, x)])


def made_facts(book, notes):
    """The list of the facts that makings tell, at hosts for which one of these notes stands."""
    trusted = [note[1] for note in notes if note[0] == "host"]
    return [("gives", *making[1:]) for making in book.makings if making[0] in trusted]
