"""Point [30]."""

import random
import unittest
from itertools import combinations

from tests.cases import EMPTY_BOOK, Case
from tests.doubts import ANSWERED, BROKEN, doubted_book, full_book, told
from tests.samples import all_claims, book, random_book
from tests.slow import answer as slow_answer
from tests.slow import bars, bears, facts
from tests.test_answers import NO_CLAIMS
from tests.test_books import NO_BOOKS
from trulymade.answers import answer
from trulymade.chains import chain, notes_used
from trulymade.errors import BadBook, BadClaim
from trulymade.lots import barring, bearing, blame, margin, undoing


def all_lots(made):
    """All lots of doubtful notes, ordered by length, then as tuples."""
    return [lot for many in range(len(made.doubtful) + 1) for lot in combinations(made.doubtful, many)]


def least(lots):
    return [lot for lot in lots if not any(set(other) < set(lot) for other in lots)]


def kept_with(made, lot):
    return tuple(at for at in range(len(made.notes)) if at not in made.doubtful or at in lot)


# Ways from a to b: by one note, by two, and by three; and what makes each of them clash.
WAYS = told([("h", "a", "a", "r"), ("h", "b", "a", "s")],
            [("as", "a", "b"), ("as", "a", "c"), ("as", "c", "b"), ("right", "d", 1, 0), ("as", "a", "d"),
             ("as", "d", "e"), ("as", "e", "b"), ("apart", "f", "f"), ("host", "h")], [0, 1, 2, 4, 5, 6, 7, 8], 0)


class TestLots(Case):
    def lots(self, made, claim):
        """All five, held against a going through all lots."""
        lots = all_lots(made)
        borne = least([lot for lot in lots if bears(made, kept_with(made, lot), claim)])
        barred = least([lot for lot in lots if bars(made, kept_with(made, lot), claim)])
        undone = least([lot for lot in lots if all(set(lot) & set(other) for other in borne)])
        self.same(bearing(made, claim), borne)
        self.same(barring(made, claim), barred)
        self.same(undoing(made, claim), undone)
        self.same(margin(made, claim), self.slow_margin(made, claim))
        self.same(blame(made), least([lot for lot in lots if facts(made, kept_with(made, lot), None)[1]]))

    def slow_margin(self, made, claim):
        held = [lies for lies in range(len(made.doubtful) + 1)
                if slow_answer(made.with_lies(lies), claim) in ("sure", "broken")]
        self.assertEqual(held, list(range(len(held))))
        return len(held) - 1

    def test_least_lots_in_order(self):
        claim = ("as", "a", "b")
        self.same(bearing(WAYS, claim), [(0,), (7,), (1, 2), (4, 5, 6)])
        self.same(undoing(WAYS, claim), [(0, 1, 4, 7), (0, 1, 5, 7), (0, 1, 6, 7),
                                         (0, 2, 4, 7), (0, 2, 5, 7), (0, 2, 6, 7)])
        self.same(margin(WAYS, claim), 3)
        self.same(barring(WAYS, claim), [(7,), (8,)])
        self.same(blame(WAYS), [(7,), (0, 8), (1, 2, 8), (4, 5, 6, 8)])

    def test_ordered_by_length_then_as_tuples(self):
        made = told((), [("as", "a", "f"), ("as", "f", "b"), ("as", "a", "e"), ("as", "a", "c"), ("as", "c", "b"),
                         ("as", "e", "b"), ("as", "a", "b")], list(range(7)), 3)
        self.same(bearing(made, ("as", "b", "a")), [(6,), (0, 1), (2, 5), (3, 4)])
        self.same(undoing(made, ("as", "b", "a"))[:2], [(0, 2, 3, 6), (0, 2, 4, 6)])
        self.assertEqual(len(undoing(made, ("as", "b", "a"))), 8)

    def test_no_lot_and_the_empty_lot(self):
        made = told((), [("as", "a", "b"), ("as", "c", "d")], (1,), 1)
        self.same(bearing(made, ("as", "b", "a")), [()])
        self.same(undoing(made, ("as", "b", "a")), [])
        self.same(margin(made, ("as", "b", "a")), 1)
        self.same(barring(made, ("as", "b", "a")), [])
        self.same(bearing(made, ("right", "a", 0, 0)), [])
        self.same(undoing(made, ("right", "a", 0, 0)), [()])
        self.same(margin(made, ("right", "a", 0, 0)), -1)
        self.same(barring(made, ("apart", "a", "b")), [()])
        self.same(bearing(made, ("as", "c", "d")), [(1,)])
        self.same(undoing(made, ("as", "c", "d")), [(1,)])
        self.same(margin(made, ("as", "c", "d")), 0)
        self.same(barring(made, ("apart", "d", "c")), [(1,)])
        self.same(blame(made), [])
        self.same(blame(told((), [("apart", "a", "a")])), [()])

    def test_without_a_world(self):
        for claim in (("as", "a", "f"), ("apart", "a", "f"), ("right", "b", 0, 3), ("gives", "f", "f", "r")):
            for made in (BROKEN, ANSWERED.with_lies(0)):
                self.lots(made, claim)
            self.same(bearing(BROKEN, claim), [()])
            self.same(barring(BROKEN, claim), [()])
            self.same(blame(BROKEN), [()])
            # There is no world, whatever the lies: so the claim holds in every world.
            self.same(margin(BROKEN, claim), 3)

    def test_no_doubtful_notes(self):
        made = told((), [("as", "a", "b"), ("apart", "c", "b")])
        for claim, wanted in ((("as", "a", "b"), 0), (("apart", "a", "c"), 0), (("as", "a", "c"), -1),
                              (("as", "e", "f"), -1)):
            self.same(margin(made, claim), wanted)
            self.lots(made, claim)
        self.same(margin(EMPTY_BOOK.with_thing("a", 0), ("as", "a", "a")), 0)
        self.same(blame(EMPTY_BOOK), [])

    def test_the_number_of_lies_counts_for_nothing(self):
        for claim in (("as", "a", "f"), ("apart", "a", "f"), ("gives", "a", "b", "d"), ("right", "f", 0, 1)):
            for lies in range(4):
                made = ANSWERED.with_lies(lies)
                self.lots(made, claim)
                for function in (bearing, barring, undoing, margin):
                    self.same(function(made, claim), function(ANSWERED, claim))
                self.same(blame(made), blame(ANSWERED))

    def test_margin_tells_when_a_claim_is_sure(self):
        lot = random.Random(31)
        for _ in range(60):
            made = doubted_book(lot)
            claim = lot.choice(all_claims(made))
            many = margin(made, claim)
            for lies in range(len(made.doubtful) + 1):
                self.assertIs(answer(made.with_lies(lies), claim) in ("sure", "broken"), lies <= many)

    def test_books_by_lot(self):
        lot = random.Random(30)
        doubts = set()
        for at in range(90):
            made = (random_book if at % 3 == 0 else doubted_book)(lot)
            claims = all_claims(made)
            if len(made.doubtful) <= 6:
                for claim in lot.sample(claims, min(2, len(claims))):
                    self.lots(made, claim)
                doubts.add(len(made.doubtful))
        self.assertEqual(doubts, set(range(7)))

    def test_eight_doubtful_notes(self):
        lot = random.Random(8)
        kinds = set()
        while len(kinds) < 4:
            made = doubted_book(lot)
            claim = lot.choice(all_claims(made))
            if len(made.doubtful) == 8 and claim[0] not in kinds:
                kinds.add(claim[0])
                self.lots(made, claim)

    def test_chains_with_no_other_notes(self):
        for claim in (("as", "a", "b"), ("right", "b", 1, 0), ("apart", "a", "f"), ("gives", "d", "a", "r")):
            for function, word in ((bearing, "bears"), (barring, "bars")):
                for lot in function(WAYS, claim):
                    steps = chain(WAYS, kept_with(WAYS, lot), claim, word)
                    self.same(tuple(notes_used(WAYS, steps)), lot)

    def test_full_books(self):
        full = full_book()
        self.same(bearing(full, ("right", "ta", 0, 1)), [(2,)])
        self.same(undoing(full, ("right", "ta", 0, 1)), [(2,)])
        self.same(margin(full, ("right", "tp", 3, 1)), 8)
        self.same(barring(full, ("as", "tn", "to")), [()])
        self.same(blame(full), [])
        self.same(bearing(full, ("as", "tb", "tf")), [(2,)])
        self.same(bearing(full, ("as", "tc", "tf")), [(2, 3)])

    def test_new_lists(self):
        claim = ("as", "a", "b")
        for function, arguments in ((bearing, (WAYS, claim)), (barring, (WAYS, claim)), (undoing, (WAYS, claim)),
                                    (blame, (WAYS,))):
            first = function(*arguments)
            wanted = list(first)
            first.clear()
            self.same(function(*arguments), wanted)

    def test_wrong(self):
        for value in NO_BOOKS:
            self.wrong(BadBook, value, blame, value)
            for function in (bearing, barring, undoing, margin):
                self.wrong(BadBook, value, function, value, ("as", "ann", "bob"))
                self.wrong(BadBook, value, function, value, None)
        for function in (bearing, barring, undoing, margin):
            for value in NO_CLAIMS:
                self.wrong(BadClaim, value, function, book(), value)
                self.wrong(BadClaim, value, function, EMPTY_BOOK, value)


if __name__ == "__main__":
    unittest.main()
