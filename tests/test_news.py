"""Point [34]."""

import random
import unittest

from tests.cases import EMPTY_BOOK, NO_LISTS, Case, nested
from tests.doubts import ANSWERED, ANSWERS, BROKEN, doubted_book, full_book, told
from tests.samples import all_claims, book
from tests.slow import answer as slow_answer
from tests.test_answers import NO_CLAIMS
from tests.test_books import NO_BOOKS
from trulymade.errors import BadBook, BadClaims
from trulymade.news import changes

CLAIMS = [claim for word in ANSWERS for claim in ANSWERS[word]]


class TestChanges(Case):
    def test_one_lie_less(self):
        claims = [("as", "a", "f"), ("as", "a", "c"), ("right", "f", 0, 1), ("gives", "a", "b", "d"),
                  ("apart", "f", "a")]
        fewer = ANSWERED.with_lies(1)
        self.same(changes(ANSWERED, fewer, claims), [(claims[0], "open", "sure"), (claims[2], "open", "sure"),
                                                     (claims[4], "open", "never")])
        self.same(changes(fewer, ANSWERED, tuple(claims[::-1])),
                  [(claims[4], "never", "open"), (claims[2], "sure", "open"), (claims[0], "sure", "open")])
        self.same(changes(ANSWERED, ANSWERED, claims), [])

    def test_broken(self):
        wanted = [(claim, word, "broken") for word in ANSWERS for claim in ANSWERS[word]]
        self.same(changes(ANSWERED, BROKEN, CLAIMS), wanted)
        self.same(changes(BROKEN, BROKEN, CLAIMS), [])

    def test_claims_that_stand_twice(self):
        sure = told((), [("as", "a", "b")])
        claim, other = ("as", "b", "a"), ("as", "b", "c")
        self.same(changes(told(), sure, [claim, other, claim]), [(claim, "open", "sure")] * 2)

    def test_no_claims(self):
        self.same(changes(ANSWERED, BROKEN, []), [])
        self.same(changes(EMPTY_BOOK, EMPTY_BOOK, ()), [])

    def test_how_many(self):
        sure = told((), [("as", "a", "b")])
        self.same(changes(told(), sure, [("as", "b", "a")] * 50), [(("as", "b", "a"), "open", "sure")] * 50)
        for claims in ([("as", "b", "a")] * 51, (("as", "b", "a"),) * 51, [None] * 51):
            self.wrong(BadClaims, -1, changes, told(), sure, claims)

    def test_books_with_other_names(self):
        more = ANSWERED.with_thing("g", 0)
        self.same(changes(ANSWERED, more, CLAIMS), [])
        for old, new in ((ANSWERED, more), (more, ANSWERED)):
            self.wrong(BadClaims, 2, changes, old, new, [("as", "a", "b"), ("as", "b", "a"), ("as", "g", "a"), None])
        self.same(changes(more, more.with_note(("as", "g", "f"), False), [("as", "g", "f")]),
                  [(("as", "g", "f"), "open", "sure")])

    def test_books_by_lot(self):
        lot = random.Random(34)
        told_words = set()
        for _ in range(40):
            old, new = doubted_book(lot), doubted_book(lot)
            claims = lot.sample(all_claims(old), 6)
            words = [(claim, slow_answer(old, claim), slow_answer(new, claim)) for claim in claims]
            self.same(changes(old, new, claims), [told_one for told_one in words if told_one[1] != told_one[2]])
            told_words |= {words[1:] for words in words}
        self.assertGreater(len(told_words), 10)

    def test_full_books(self):
        claims = [("as", "t" + letter, "tb") for letter in "abcdefghijklmnop"] + [("right", "ta", 0, 1)] * 34
        found = changes(full_book(), full_book(range(8), 0), claims)
        self.same(found[:2], [(("as", "ta", "tb"), "open", "never"), (("as", "tc", "tb"), "open", "sure")])
        self.same(found[-1], (("right", "ta", 0, 1), "open", "sure"))

    def test_new_lists(self):
        first = changes(ANSWERED, BROKEN, CLAIMS)
        wanted = list(first)
        first.clear()
        self.same(changes(ANSWERED, BROKEN, CLAIMS), wanted)

    def test_wrong(self):
        for value in NO_BOOKS:
            self.wrong(BadBook, value, changes, value, book(), [])
            self.wrong(BadBook, value, changes, book(), value, [])
            self.wrong(BadBook, value, changes, value, None, None)
            self.wrong(BadBook, value, changes, book(), value, None)
        for value in NO_LISTS:
            self.wrong(BadClaims, -1, changes, book(), book(), value)
        for value in NO_CLAIMS:
            self.wrong(BadClaims, 0, changes, book(), book(), [value])
            self.wrong(BadClaims, 1, changes, book(), book(), (("as", "ann", "bob"), value, None))
        self.wrong(BadClaims, 0, changes, book(), book(), nested(20))
        self.wrong(BadClaims, 0, changes, book(), book(), ("as", "ann", "bob"))


if __name__ == "__main__":
    unittest.main()
