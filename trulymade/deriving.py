"""The search for a chain of steps: points [27] and [28]."""

from trulymade.reasons import CLASH, RULES

# The reasons that can lead on from two facts about one maker, by the words of the facts.
PAIRS = {
    ("as", "right"): ("carry",), ("as", "gives"): ("carry",), ("right", "gives"): ("led", "unfit"),
    ("gives", "gives"): ("two",), ("right", "right"): ("ways",),
}


def found_chain(book, kept, said, lasts):
    """A chain for the kept notes, with this said unless it is None, that ends in one of these facts; or None."""
    return Deriving(book, kept, said, lasts).chain_to_last()


class Deriving:
    """The facts that were found, and for each one why it is so, the earlier ones first.

    A reason is kept as a tuple of its word, the tuple of the facts of which it
    names the steps, and the tuple of the indexes that it names besides. The
    last facts that are looked for are some, and the clash always is one.
    """

    def __init__(self, book, kept, said, lasts):
        self._book = book
        self._kept = tuple(kept)
        self._lasts = tuple(lasts)
        self._last = None
        self._whys = {}
        self._waiting = []
        self._about = {name: [] for name, _ in book.things}
        for name, _ in book.things:
            self._add(("as", name, name), "self", (), ())
        if said is not None:
            self._add(said, "said", (), ())
        for at in self._kept:
            self._try("note", (book.notes[at],), (), (at,))
        for number, making in enumerate(book.makings):
            for at in self._kept:
                self._try("made", (making, book.notes[at]), (), (number, at))

    def chain_to_last(self):
        """The chain that ends in the first of the last facts that is found, or None."""
        at = 0
        while self._last is None and at < len(self._waiting):
            self._go_on_from(self._waiting[at])
            at += 1
        return None if self._last is None else self._chain_to(self._last)

    def _add(self, fact, word, facts, indexes):
        """Put a fact to those that were found, unless it is there."""
        if fact in self._whys:
            return
        self._whys[fact] = (word, facts, indexes)
        if fact != CLASH:
            self._waiting.append(fact)
            self._about[fact[1]].append(fact)
        if self._last is None and fact in self._lasts:
            self._last = fact

    def _try(self, word, told, facts, indexes):
        """Put what follows by this word from what is told to the facts, if anything does."""
        rule = RULES[word]
        fact = rule(self._book, told)
        if fact is not None:
            self._add(fact, word, facts, indexes)

    def _go_on_from(self, fact):
        """All that follows from this fact, alone or with one that was found."""
        if fact[0] == "as":
            self._go_on_from_same(fact)
        for other in list(self._about[fact[1]]):
            self._try_pair((fact, other))
            self._try_pair((other, fact))

    def _go_on_from_same(self, fact):
        """What follows from the fact that two are the same, and not from facts about the first one of them."""
        self._try("turn", (fact,), (fact,), ())
        # As each fact is turned, it is enough to join what lies behind it.
        for other in list(self._about[fact[2]]):
            self._try("join", (fact, other), (fact, other), ())
        for at in self._kept:
            self._try("against", (fact, self._book.notes[at]), (fact,), (at,))

    def _try_pair(self, pair):
        """What follows from these two facts about one maker."""
        one, other = pair
        for word in PAIRS.get((one[0], other[0]), ()):
            self._try(word, pair, pair, ())

    def _chain_to(self, last):
        """The tuple of the steps that the last fact needs."""
        needed = self._needed_for(last)
        places = {}
        steps = []
        for fact in self._whys:
            if fact in needed:
                word, facts, indexes = self._whys[fact]
                places[fact] = len(steps)
                steps.append((fact, (word,) + tuple([places[one] for one in facts]) + indexes))
        return tuple(steps)

    def _needed_for(self, last):
        """A dict that has the last fact and all from which it follows."""
        needed = {last: True}
        left = [last]
        while left:
            _, facts, _ = self._whys[left.pop()]
            for fact in facts:
                if fact not in needed:
                    needed[fact] = True
                    left.append(fact)
        return needed
