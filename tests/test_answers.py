"""Point [22], the answers; with [25]."""

import random
import unittest

from tests.cases import EMPTY_BOOK, NO_LISTS, Case, nested
from tests.doubts import ANSWERED, ANSWERS, BROKEN, doubted_book, full_book, told
from tests.samples import all_claims, book, random_book
from tests.slow import answer as slow_answer
from tests.test_books import NO_BOOKS
from trulymade.answers import answer, fits, surely_alike
from trulymade.books import Book
from trulymade.errors import BadBook, BadClaim

# What is no claim of the sample book, at whatever place of it.
NO_CLAIMS = NO_LISTS + [
    (), ("as",), ("as", "ann"), ["as", "ann", "bob"], ("as", ["ann"], "bob"), ("as", "ann", "rag"),
    ("as", "ann", "eve"), ("as", "ann", "hal"), ("as", "ann", "bob", "cat"), ("As", "ann", "bob"),
    (None, "ann", "bob"), ("apart", "ann", None),
    ("apart", "rag", "ann"), ("apart", "ann", 0), ("host", "hal"), ("right", "ann", 0), ("right", "ann", 0, 5),
    ("right", "ann", -1, 0), ("right", "ann", True, 1), ("right", "ann", 0, False), ("right", "ann", "0", 1),
    ("right", "rag", 0, 1), ("right", "ann", 0, (1,)), ("gives", "ann", "bob"), ("gives", "ann", "rag", "bob"),
    ("gives", "rag", "bob", "ann"), ("gives", "ann", "bob", "hal"), ("gives", "ann", "bob", "eve"), ("clash",),
    ("gives", "ann", "bob", ["rag"]), (("as", "ann", "bob"),), nested(20), ("as", "ann", {}), ({}, "ann", "bob")]


class TestAnswer(Case):
    def test_each_answer_to_each_kind(self):
        for word in ANSWERS:
            self.assertEqual({claim[0] for claim in ANSWERS[word]}, {"as", "apart", "right", "gives"})
            for claim in ANSWERS[word]:
                self.same(answer(ANSWERED, claim), word)
                self.same(answer(BROKEN, claim), "broken")

    def test_one_lie_more_or_less(self):
        claim = ("as", "f", "a")
        self.same([answer(ANSWERED.with_lies(lies), claim) for lies in range(4)], ["broken", "sure", "open", "open"])
        claim = ("gives", "a", "b", "d")
        self.same([answer(ANSWERED.with_lies(lies), claim) for lies in range(4)], ["broken", "open", "open", "open"])
        claim = ("apart", "a", "f")
        self.same([answer(ANSWERED.with_lies(lies), claim) for lies in range(4)], ["broken", "never", "open", "open"])

    def test_claims_that_name_one_thing_twice(self):
        for word, claim in (("sure", ("as", "a", "a")), ("never", ("apart", "a", "a")), ("open", ("right", "a", 0, 0)),
                            ("open", ("gives", "a", "a", "a"))):
            self.same(answer(told(), claim), word)

    def test_hosts_without_a_note(self):
        making = ("h", "a", "b", "d")
        self.same(answer(told([making]), ("gives", "a", "b", "d")), "open")
        self.same(answer(told([making], [("host", "i")]), ("gives", "a", "b", "d")), "open")
        self.same(answer(told([making], [("host", "h")]), ("gives", "a", "b", "d")), "sure")
        self.same(answer(told([making], [("host", "h")], (0,)), ("gives", "a", "b", "d")), "sure")
        self.same(answer(told([making], [("host", "h")], (0,), 1), ("gives", "a", "b", "d")), "open")
        self.same(answer(told([making], [("host", "h")], (0,), 1), ("gives", "a", "b", "r")), "open")

    def test_makers_and_outcomes(self):
        notes = [("host", "h"), ("host", "i"), ("right", "a", 0, 1)]
        several = told([("h", "a", "b", "d"), ("h", "a", "a", "e"), ("i", "d", "d", "d"), ("i", "d", "e", "r")], notes)
        for claim in (("as", "b", "d"), ("as", "a", "e"), ("right", "e", 0, 1), ("gives", "e", "b", "d"),
                      ("gives", "b", "e", "r"), ("apart", "a", "b")):
            self.same(answer(several, claim), "open" if claim[0] == "apart" else "sure")
        # The maker makes itself anew and knows one of form 0 from the others.
        makings = [("h", "a", "b", "e"), ("h", "a", "c", "d"), ("i", "e", "b", "e")]
        twisted = told(makings, notes[:2] + [("as", "a", "e")])
        self.same(answer(twisted, ("right", "a", 0, 1)), "open")
        self.same(answer(twisted, ("gives", "a", "b", "e")), "sure")
        self.same(answer(twisted, ("gives", "a", "b", "d")), "never")
        self.same(answer(twisted.with_note(("apart", "b", "e"), False), ("right", "a", 0, 1)), "never")

    def test_one_of_two_notes_is_false(self):
        # One of two doubtful notes is false, free which: no world has both, but each has one.
        two = told((), [("as", "a", "b"), ("as", "b", "c"), ("apart", "a", "c")], (0, 1), 1)
        self.same(answer(two, ("as", "a", "b")), "open")
        self.same(answer(two, ("as", "a", "c")), "never")
        three = two.with_note(("right", "a", 0, 1), False).with_note(("right", "c", 0, 1), False)
        self.same(answer(three, ("right", "b", 0, 1)), "sure")

    def test_the_empty_book_and_one_thing(self):
        one = Book([("a", 3)], (), (), (), (), (), 0)
        self.same(answer(one, ("as", "a", "a")), "sure")
        self.same(answer(one, ("right", "a", 3, 3)), "open")
        for value in NO_LISTS + [("as", "a", "a")]:
            self.wrong(BadClaim, value, answer, EMPTY_BOOK, value)

    def test_slow_answers(self):
        lot = random.Random(22)
        told_words = []
        for at in range(220):
            made = (random_book if at % 2 else doubted_book)(lot)
            claims = all_claims(made)
            for claim in lot.sample(claims, min(5, len(claims))):
                word = answer(made, claim)
                self.same(word, slow_answer(made, claim))
                self.same(answer(made, claim), word)
                told_words.append(word)
        for word in ("broken", "sure", "never", "open"):
            self.assertGreater(told_words.count(word), 30, word)

    def test_full_books(self):
        for lies in range(9):
            full = full_book(range(8), lies)
            self.same(answer(full, ("right", "ta", 0, 1)), "sure" if lies == 0 else "open")
            self.same(answer(full, ("right", "tp", 3, 1)), "sure")
            self.same(answer(full, ("right", "tp", 3, 2)), "never")

    def test_wrong(self):
        for value in NO_BOOKS:
            self.wrong(BadBook, value, answer, value, ("as", "ann", "bob"))
            self.wrong(BadBook, value, answer, value, None)
        for value in NO_CLAIMS:
            self.wrong(BadClaim, value, answer, book(), value)
            self.wrong(BadClaim, value, answer, book(notes=(("apart", "ann", "ann"),), doubtful=(), lies=0), value)


class TestFits(Case):
    def test_fits(self):
        self.assertIs(fits(ANSWERED), True)
        self.assertIs(fits(BROKEN), False)
        self.assertIs(fits(EMPTY_BOOK), True)
        self.same([fits(ANSWERED.with_lies(lies)) for lies in range(4)], [False, True, True, True])
        self.assertIs(fits(told((), [("apart", "a", "a")])), False)
        self.assertIs(fits(told((), [("apart", "a", "a")], (0,))), False)
        self.assertIs(fits(told((), [("apart", "a", "a")], (0,), 1)), True)

    def test_wrong(self):
        for value in NO_BOOKS:
            self.wrong(BadBook, value, fits, value)
            self.wrong(BadBook, value, surely_alike, value)


class TestSurelyAlike(Case):
    def test_pairs(self):
        self.same(surely_alike(ANSWERED), [("a", "c")])
        self.same(surely_alike(ANSWERED.with_lies(1)), [("a", "c"), ("a", "f"), ("c", "f")])
        self.same(surely_alike(told((), [("as", "f", "b"), ("as", "b", "e")])), [("b", "e"), ("b", "f"), ("e", "f")])
        self.same(surely_alike(told()), [])

    def test_names_not_places(self):
        made = Book([("zz", 0), ("b", 0), ("abc", 0)], (), (), (), [("as", "zz", "b"), ("as", "zz", "abc")], (), 0)
        self.same(surely_alike(made), [("abc", "b"), ("abc", "zz"), ("b", "zz")])

    def test_broken_and_empty(self):
        self.same(surely_alike(BROKEN), [])
        self.same(surely_alike(EMPTY_BOOK), [])

    def test_all_are_alike(self):
        names = ["t" + letter for letter in "abcdefghijklmnop"]
        notes = [("as", a, b) for a, b in zip(names, names[1:])]
        made = Book([(name, 1) for name in names], (), (), (), notes, (), 0)
        self.same(surely_alike(made), [(a, b) for a in names for b in names if a < b])
        # Without one of two notes: the first eight, the seven behind them, and the last one.
        doubted = Book(made.things, (), (), (), notes, (7, 14), 1)
        self.assertEqual(len(surely_alike(doubted)), 8 * 7 // 2 + 7 * 6 // 2)

    def test_answers_tell_the_same(self):
        lot = random.Random(23)
        for _ in range(60):
            made = doubted_book(lot)
            names = sorted(name for name, _ in made.things)
            wanted = [(a, b) for a in names for b in names if a < b and slow_answer(made, ("as", a, b)) == "sure"]
            self.same(surely_alike(made), wanted)

    def test_new_lists(self):
        surely_alike(ANSWERED).clear()
        self.same(surely_alike(ANSWERED), [("a", "c")])


if __name__ == "__main__":
    unittest.main()
