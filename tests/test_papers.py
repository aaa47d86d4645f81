"""Point [29]."""

import random
import unittest

from tests.cases import EMPTY_BOOK, NO_LISTS, Case, nested
from tests.doubts import ANSWERED, ANSWERS, BROKEN, doubted_book, full_book, told
from tests.samples import all_claims, book, random_book
from tests.slow import answer as slow_answer
from tests.slow import is_chain as slow_is_chain
from tests.slow import let_kepts
from tests.test_answers import NO_CLAIMS
from tests.test_books import NO_BOOKS
from trulymade.answers import answer, fits
from trulymade.books import Book
from trulymade.chains import chain, is_chain, notes_used
from trulymade.errors import BadBook, BadClaim, BadWord, NoPaper
from trulymade.papers import broken_paper, is_broken_paper, is_paper, paper

WORDS = {"sure": "bears", "never": "bars"}
NO_PAPER_WORDS = NO_LISTS + [(), ("sure",), ["never"], "bears", "bars", "open", "broken", "Sure", "sure ",
                             {"sure": 1}, nested(20)]

# Two of three notes tell that b and c are the same as a; at most one is false.
THREE = told((), [("as", "a", "b"), ("as", "c", "b"), ("as", "a", "c"), ("apart", "d", "e"), ("apart", "e", "f"),
                  ("as", "d", "a"), ("as", "b", "e")], (0, 1, 2, 3), 1)
AB = ((("as", "a", "b"), ("note", 0)),)
ACB = ((("as", "a", "c"), ("note", 2)), (("as", "c", "b"), ("note", 1)), (("as", "a", "b"), ("join", 0, 1)))


def serves_all(made, chains):
    """Whether for each let lot one of the chains uses no note of it."""
    return all(any(set(notes_used(made, one)) <= set(kept) for one in chains) for kept in let_kepts(made))


class TestPaper(Case):
    def told_paper(self, made, claim, word):
        chains = paper(made, claim)
        self.assertIsInstance(chains, tuple)
        self.assertIs(is_paper(made, claim, word, chains), True)
        for one in chains:
            self.assertIs(is_chain(made, made.all_notes(), claim, WORDS[word], one), True)
            self.assertTrue(slow_is_chain(made, made.all_notes(), claim, WORDS[word], one))
        self.assertTrue(serves_all(made, chains))
        self.same(paper(made, claim), chains)
        return chains

    def test_each_answer(self):
        for word in ANSWERS:
            for claim in ANSWERS[word]:
                if word == "open":
                    self.wrong(NoPaper, "open", paper, ANSWERED, claim)
                else:
                    self.told_paper(ANSWERED, claim, word)
                self.wrong(NoPaper, "broken", paper, BROKEN, claim)

    def test_more_than_one_chain(self):
        self.assertGreater(len(self.told_paper(THREE, ("as", "a", "b"), "sure")), 1)
        self.assertGreater(len(self.told_paper(THREE, ("apart", "b", "a"), "never")), 1)

    def test_no_doubtful_notes(self):
        made = told((), [("as", "a", "b"), ("apart", "c", "b"), ("right", "a", 0, 1)])
        for claim in (("as", "b", "a"), ("apart", "a", "c"), ("right", "b", 0, 1)):
            self.assertEqual(len(self.told_paper(made, claim, "sure")), 1)
        for claim in (("apart", "b", "a"), ("as", "c", "a"), ("right", "b", 0, 2), ("gives", "b", "a", "r")):
            self.assertEqual(len(self.told_paper(made, claim, "never")), 1)

    def test_books_by_lot(self):
        lot = random.Random(29)
        many = []
        for at in range(200):
            made = (random_book if at % 2 else doubted_book)(lot)
            claims = all_claims(made)
            for claim in lot.sample(claims, min(4, len(claims))):
                word = slow_answer(made, claim)
                if word in WORDS:
                    chains = self.told_paper(made, claim, word)
                    many.append(len(chains))
                    self.assertIs(is_paper(made, claim, "never" if word == "sure" else "sure", chains), False)
                else:
                    self.wrong(NoPaper, word, paper, made, claim)
        self.assertGreater(len(many), 80)
        self.assertGreater(max(many), 1)

    def test_full_books(self):
        for lies in (0, 1, 4, 8):
            full = full_book(range(8), lies)
            for claim in (("right", "tp", 3, 1), ("right", "tp", 3, 2), ("right", "ta", 0, 1), ("as", "ta", "ta"),
                          ("apart", "tn", "to"), ("gives", "tc", "td", "sd")):
                word = answer(full, claim)
                if word in WORDS:
                    self.assertIs(is_paper(full, claim, word, paper(full, claim)), True)

    def test_a_paper_of_many_chains(self):
        # Eight ways from a to b, each with a doubtful note of its own; four of them may be false.
        names = ["t" + letter for letter in "abcdefghij"]
        notes = [("as", "ta", name) for name in names[2:]] + [("as", name, "tb") for name in names[2:]]
        made = Book([(name, 0) for name in names], (), (), (), notes, list(range(8)), 4)
        self.assertEqual(len(self.told_paper(made, ("as", "ta", "tb"), "sure")), 5)
        self.wrong(NoPaper, "open", paper, made.with_lies(8), ("as", "ta", "tb"))

    def test_wrong(self):
        for value in NO_BOOKS:
            self.wrong(BadBook, value, paper, value, ("as", "ann", "bob"))
            self.wrong(BadBook, value, paper, value, None)
        for value in NO_CLAIMS:
            self.wrong(BadClaim, value, paper, book(), value)
            self.wrong(BadClaim, value, paper, EMPTY_BOOK, value)


class TestIsPaper(Case):
    def paper(self, wanted, *chains, claim=("as", "a", "b"), word="sure", made=THREE):
        before = repr(chains)
        self.assertIs(is_paper(made, claim, word, chains), wanted)
        self.assertEqual(repr(chains), before)

    def test_needless_doubled_and_missing_chains(self):
        self.paper(True, AB, ACB)
        self.paper(True, ACB, AB, ACB, AB, AB)
        self.paper(False, AB)
        self.paper(False, ACB, ACB)
        self.paper(False)
        # What is not needed must bear the claim as well.
        self.paper(False, AB, ACB, ACB[:2])
        self.paper(False, AB, ACB, ())
        self.paper(True, AB, ACB, (AB[0], ACB[0], AB[0]))

    def test_needless_notes_in_a_chain_count(self):
        needless = (ACB[1], AB[0])
        self.paper(False, needless, ACB)
        self.paper(True, needless, ACB, AB)

    def test_a_chain_without_doubt_is_enough(self):
        sure = told((), [("as", "a", "b"), ("as", "b", "a")], (0,), 1)
        turned = ((("as", "b", "a"), ("note", 1)), (("as", "a", "b"), ("turn", 0)))
        self.paper(True, turned, made=sure)
        self.paper(True, AB, turned, made=sure)
        self.paper(False, AB, made=sure)
        self.paper(True, AB, made=sure.with_lies(0))

    def test_lies(self):
        self.paper(True, AB, made=THREE.with_lies(0))
        self.paper(True, ACB, made=THREE.with_lies(0))
        self.paper(False, made=THREE.with_lies(0))
        self.paper(False, AB, ACB, made=THREE.with_lies(2))

    def test_never(self):
        self.paper(True, AB, ACB, claim=("apart", "a", "b"), word="never")
        self.paper(False, AB, ACB, claim=("apart", "b", "a"), word="never")
        self.paper(False, AB, ACB, word="never")
        self.paper(False, AB, ACB, claim=("apart", "a", "b"), word="sure")
        said = ((("as", "f", "e"), ("said",)), (("clash",), ("against", 0, 4)))
        self.paper(True, said, claim=("as", "f", "e"), word="never")
        self.paper(True, said, claim=("apart", "f", "e"), word="sure")
        self.paper(False, said, claim=("as", "f", "e"), word="sure")
        doubted = ((("as", "d", "e"), ("said",)), (("clash",), ("against", 0, 3)))
        self.paper(False, doubted, claim=("as", "d", "e"), word="never")

    def test_papers_of_broken_books(self):
        broken = told((), [("as", "a", "b"), ("apart", "a", "b")])
        clash = (AB[0], (("clash",), ("against", 0, 1)))
        for claim in (("as", "a", "b"), ("as", "e", "f"), ("apart", "e", "f"), ("gives", "e", "f", "r")):
            for word in ("sure", "never"):
                self.paper(True, clash, claim=claim, word=word, made=broken)
                self.wrong(NoPaper, "broken", paper, broken, claim)
        self.paper(True, AB, made=broken)
        self.paper(False, AB, claim=("as", "e", "f"), made=broken)

    def test_what_is_no_paper(self):
        for value in NO_LISTS + [(), [AB, ACB], (list(AB), ACB), AB, (AB, None), (None, AB, ACB), ((AB, ACB),),
                                 nested(20), (nested(20), AB, ACB), {AB: ACB}, (AB, ACB, THREE),
                                 (AB, ACB, {}), (AB, ACB, True)]:
            before = repr(value)
            for word in ("sure", "never"):
                self.assertIs(is_paper(THREE, ("as", "a", "b"), word, value), False)
            self.assertIs(is_broken_paper(BROKEN, value), False)
            self.assertEqual(repr(value), before)

    def test_long_chains(self):
        needless = ((("as", "f", "f"), ("self",)),) * 1990
        self.paper(True, needless + AB, ACB)
        self.paper(True, *[needless + AB] * 5, ACB)

    def test_wrong(self):
        good = ("as", "ann", "bob")
        for value in NO_BOOKS:
            self.wrong(BadBook, value, is_paper, value, good, "sure", ())
            self.wrong(BadBook, value, is_paper, value, None, None, None)
        for value in NO_CLAIMS:
            self.wrong(BadClaim, value, is_paper, book(), value, "sure", ())
            self.wrong(BadClaim, value, is_paper, book(), value, None, ())
        for value in NO_PAPER_WORDS:
            self.wrong(BadWord, value, is_paper, book(), good, value, ())


class TestBrokenPaper(Case):
    def broken(self, made):
        chains = broken_paper(made)
        self.assertIs(chains is None, fits(made))
        self.same(broken_paper(made), chains)
        if chains is not None:
            self.assertIsInstance(chains, tuple)
            self.assertIs(is_broken_paper(made, chains), True)
            self.assertTrue(serves_all(made, chains))
            for one in chains:
                self.assertEqual(one[-1][0], ("clash",))
                self.assertNotIn(("said",), [reason for _, reason in one])
        return chains

    def test_with_a_world(self):
        for made in (ANSWERED, EMPTY_BOOK, THREE, Book([("a", 0)], (), (), (), (), (), 0)):
            self.assertIsNone(self.broken(made))
            self.assertIs(is_broken_paper(made, ()), False)

    def test_without_a_world(self):
        self.assertEqual(len(self.broken(BROKEN)), 1)
        self.assertIsNotNone(self.broken(ANSWERED.with_lies(0)))
        self.assertIsNotNone(self.broken(told((), [("apart", "f", "f")], (), 0)))

    def test_each_lot_has_its_clash(self):
        notes = [("right", "a", 0, target) for target in range(5)]
        made = told((), notes, list(range(5)), 3)
        chains = self.broken(made)
        self.assertGreater(len(chains), 1)
        self.assertIsNone(self.broken(made.with_lies(4)))
        for at in range(len(chains)):
            few = chains[:at] + chains[at + 1:]
            self.assertIs(is_broken_paper(made, few), serves_all(made, few))
        self.assertIs(is_broken_paper(made, chains + chains[::-1]), True)
        self.assertIs(is_broken_paper(made, chains[:1] * 5), False)
        self.assertIs(is_broken_paper(made, list(chains)), False)

    def test_chains_that_do_not_clash(self):
        clash = broken_paper(BROKEN)[0]
        step = ((("as", "a", "a"), ("self",)),)
        self.assertIs(is_broken_paper(BROKEN, (clash,)), True)
        self.assertIs(is_broken_paper(BROKEN, (clash, step)), False)
        self.assertIs(is_broken_paper(BROKEN, (step,)), False)
        self.assertIs(is_broken_paper(BROKEN, (clash + step,)), False)
        self.assertIs(is_broken_paper(BROKEN, (clash + ((("as", "a", "b"), ("said",)), clash[-1]),)), False)
        said = ((("as", "d", "e"), ("said",)), (("clash",), ("against", 0, 3)))
        self.assertIs(is_broken_paper(BROKEN, (said,)), False)
        self.assertIs(is_broken_paper(BROKEN, (clash, said)), False)

    def test_a_book_with_a_world_has_none(self):
        clash = chain(ANSWERED, ANSWERED.all_notes(), ("as", "a", "f"), "bars")
        self.assertIsNotNone(clash)
        self.assertIs(is_broken_paper(ANSWERED, (clash,)), False)
        self.assertIs(is_broken_paper(ANSWERED.with_lies(0), (clash,)), ("said",) not in [why for _, why in clash])

    def test_books_by_lot(self):
        lot = random.Random(30)
        found = [self.broken((random_book if at % 2 else doubted_book)(lot)) for at in range(200)]
        self.assertGreater(found.count(None), 40)
        self.assertGreater(len(found) - found.count(None), 40)

    def test_wrong(self):
        for value in NO_BOOKS:
            self.wrong(BadBook, value, broken_paper, value)
            self.wrong(BadBook, value, is_broken_paper, value, ())
            self.wrong(BadBook, value, is_broken_paper, value, None)


if __name__ == "__main__":
    unittest.main()
