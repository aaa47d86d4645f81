"""Points [27] and [28]."""

import random
import unittest

from tests.cases import EMPTY_BOOK, NO_LISTS, Case, nested
from tests.doubts import doubted_book, full_book, many_ways_book, told
from tests.samples import all_claims, book, random_book
from tests.slow import bars, bears
from tests.slow import is_chain as slow_is_chain
from tests.test_answers import NO_CLAIMS
from tests.test_books import NO_BOOKS, NO_INDEXES
from trulymade.books import Book
from trulymade.chains import chain, is_chain, notes_used
from trulymade.closing import Closing
from trulymade.errors import BadBook, BadClaim, BadKept, BadWord

CLASH = ("clash",)

BOOK = told(
    [("h", "a", "b", "d"), ("h", "a", "b", "r"), ("h", "c", "b", "s"), ("i", "d", "e", "f"), ("i", "d", "c", "r")],
    [("as", "a", "c"), ("right", "a", 0, 1), ("host", "h"), ("apart", "b", "d"), ("right", "c", 0, 2), ("as", "c", "e"),
     ("host", "i"), ("apart", "a", "e")], (0, 2, 3, 5, 7), 2)
ALL = BOOK.all_notes()

AC = (("as", "a", "c"), ("note", 0))
CE = (("as", "c", "e"), ("note", 5))
RIGHT = (("right", "a", 0, 1), ("note", 1))
RIGHT_C = (("right", "c", 0, 2), ("note", 4))
GIVES = (("gives", "a", "b", "d"), ("made", 0, 2))
GIVES_R = (("gives", "a", "b", "r"), ("made", 1, 2))

# A chain for each of the twelve reasons: the claim, and the steps, of which the last one has the reason.
REASONS = {
    "note": (("right", "a", 0, 1), (RIGHT,)),
    "self": (("as", "f", "f"), ((("as", "f", "f"), ("self",)),)),
    "turn": (("as", "c", "a"), (AC, (("as", "c", "a"), ("turn", 0)))),
    "join": (("as", "a", "e"), (AC, CE, (("as", "a", "e"), ("join", 0, 1)))),
    "made": (("gives", "a", "b", "d"), (GIVES,)),
    "carry": (("gives", "c", "b", "d"), (GIVES, AC, (("gives", "c", "b", "d"), ("carry", 1, 0)))),
    "led": (("as", "d", "b"), (GIVES, RIGHT, (("as", "d", "b"), ("led", 1, 0)))),
    "two": (("as", "a", "f"), (GIVES, GIVES_R, (CLASH, ("two", 0, 1)))),
    "unfit": (("right", "f", 1, 1), (RIGHT, GIVES_R, (CLASH, ("unfit", 0, 1)))),
    "ways": (("gives", "f", "f", "r"), (RIGHT, RIGHT_C, AC, (("right", "c", 0, 1), ("carry", 2, 0)),
                                        (CLASH, ("ways", 1, 3)))),
    "against": (("as", "b", "d"), (RIGHT, GIVES, (("as", "d", "b"), ("led", 0, 1)), (CLASH, ("against", 2, 3)))),
}


class TestIsChain(Case):
    def chain(self, wanted, claim, word, *steps, kept=ALL):
        before = repr(steps)
        self.assertIs(is_chain(BOOK, kept, claim, word, steps), wanted)
        self.assertIs(is_chain(BOOK, list(kept), claim, word, steps), wanted)
        self.assertEqual(repr(steps), before)

    def test_each_reason(self):
        for claim, steps in REASONS.values():
            self.chain(True, claim, "bears", *steps)
            self.chain(False, claim, "bears", *steps[:-1])
            # A word that tells something else, but where it takes nothing and tells the same.
            fact, (reason, *indexes) = steps[-1]
            for other in list(REASONS) + ["said", "", "Note", "clash", "as"]:
                if other != reason:
                    self.chain(False, claim, "bears", *steps[:-1], (fact, (other, *indexes)))

    def test_the_right_way_round(self):
        for steps in ((AC, CE, (("as", "a", "e"), ("join", 1, 0))), (AC, CE, (("as", "e", "a"), ("join", 0, 1))),
                      (AC, CE, (("as", "c", "c"), ("join", 0, 1)))):
            self.chain(False, ("as", "a", "e"), "bears", *steps)
        claim = ("gives", "c", "b", "d")
        self.chain(False, claim, "bears", GIVES, AC, (claim, ("carry", 0, 1)))
        turned = (("as", "c", "a"), ("turn", 1))
        self.chain(False, claim, "bears", GIVES, AC, turned, (claim, ("carry", 2, 0)))
        self.chain(False, ("as", "b", "d"), "bears", GIVES, RIGHT, (("as", "b", "d"), ("led", 1, 0)))
        self.chain(False, ("as", "d", "b"), "bears", GIVES, RIGHT, (("as", "d", "b"), ("led", 0, 1)))
        self.chain(False, ("as", "a", "f"), "bears", GIVES, GIVES_R, (CLASH, ("two", 0, 0)))
        self.chain(False, ("as", "a", "f"), "bears", RIGHT, GIVES, (CLASH, ("unfit", 0, 1)))
        self.chain(False, ("as", "a", "f"), "bears", RIGHT, GIVES_R, (CLASH, ("unfit", 1, 0)))
        self.chain(False, ("as", "a", "f"), "bears", RIGHT, RIGHT, (CLASH, ("ways", 0, 1)))
        self.chain(False, ("as", "a", "f"), "bears", RIGHT, RIGHT_C, (CLASH, ("ways", 0, 1)))
        given = (("gives", "c", "b", "s"), ("made", 2, 2))
        self.chain(False, ("as", "a", "f"), "bears", GIVES, given, (CLASH, ("two", 0, 1)))
        self.chain(True, ("as", "a", "f"), "bears", GIVES, GIVES_R, (CLASH, ("two", 1, 0)))

    def test_led_to_another_form_or_from_one(self):
        right = (("right", "d", 1, 2), ("said",))
        given = (("gives", "d", "e", "f"), ("made", 3, 6))
        scrap = (("gives", "d", "c", "r"), ("made", 4, 6))
        led = (("as", "f", "e"), ("led", 0, 1))
        for wanted, said, gift in ((False, ("right", "d", 1, 2), given), (True, ("right", "d", 1, 0), given),
                                   (False, ("right", "d", 1, 0), scrap), (True, ("right", "d", 0, 1), scrap)):
            self.chain(wanted, said, "bars", (said, ("said",)), gift, (CLASH, ("unfit", 0, 1)))
        self.chain(False, ("right", "d", 1, 2), "bars", right, given, led)

    def test_against_either_way(self):
        for pair in (("a", "e"), ("e", "a")):
            for note in (("apart", "a", "e"), ("apart", "e", "a")):
                made = told((), [("as",) + pair, note])
                steps = ((("as",) + pair, ("note", 0)), (CLASH, ("against", 0, 1)))
                self.assertIs(is_chain(made, (0, 1), ("as", "f", "b"), "bears", steps), True)
                self.assertIs(is_chain(made, (0,), ("as", "f", "b"), "bears", steps), False)
        self.chain(False, ("as", "f", "b"), "bears", AC, (CLASH, ("against", 0, 7)))
        self.chain(False, ("as", "f", "b"), "bears", AC, (CLASH, ("against", 0, 0)))
        self.chain(False, ("as", "f", "b"), "bears", RIGHT, (CLASH, ("against", 0, 7)))
        alone = told((), [("apart", "b", "b")])
        steps = ((("as", "b", "b"), ("self",)), (CLASH, ("against", 0, 0)))
        self.assertIs(is_chain(alone, [0], ("right", "f", 0, 0), "bears", steps), True)

    def test_kept_notes_alone(self):
        self.chain(True, ("as", "a", "c"), "bears", AC, kept=(0,))
        self.chain(False, ("as", "a", "c"), "bears", AC, kept=(1, 2, 3, 4, 5, 6, 7))
        self.chain(False, ("as", "a", "c"), "bears", AC, kept=())
        # A making counts if the note of its host is kept.
        self.chain(True, ("gives", "a", "b", "d"), "bears", GIVES, kept=(2,))
        self.chain(False, ("gives", "a", "b", "d"), "bears", GIVES, kept=(0, 1, 3, 4, 5, 6, 7))
        for index in (0, 1, 3, 6, 8, -6):
            self.chain(False, ("gives", "a", "b", "d"), "bears", (("gives", "a", "b", "d"), ("made", 0, index)))
        self.chain(False, ("gives", "a", "b", "d"), "bears", (("gives", "a", "b", "d"), ("made", 3, 6)))
        self.chain(False, ("gives", "a", "b", "d"), "bears", (("gives", "a", "b", "d"), ("made", -5, 2)))
        self.chain(False, ("gives", "a", "b", "d"), "bears", (("gives", "a", "b", "d"), ("made", 5, 2)))

    def test_notes_that_are_no_facts(self):
        for at, note in enumerate(BOOK.notes):
            self.chain(note[0] in ("as", "right"), ("as", "b", "b"), "bears", (note, ("note", at)),
                       (("as", "b", "b"), ("self",)))
        apart = told((), [("apart", "a", "b")])
        self.assertIs(is_chain(apart, [0], ("apart", "a", "b"), "bears", ((("apart", "a", "b"), ("note", 0)),)), False)
        self.assertIs(is_chain(apart, [0], ("apart", "a", "b"), "bars", ((("apart", "a", "b"), ("note", 0)),)), False)

    def test_self_is_for_one_thing_alone(self):
        for fact in (("as", "a", "b"), ("right", "a", 0, 0), ("right", "a", 0, 1), ("gives", "a", "a", "a"), CLASH):
            self.chain(False, ("as", "a", "b"), "bears", (fact, ("self",)))
        self.chain(False, ("as", "f", "f"), "bears", (("as", "f", "f"), ("self", 0)))
        self.chain(False, ("as", "f", "f"), "bears", (("as", "f", "f"), ()))

    def test_bearing(self):
        clash = (GIVES, GIVES_R, (CLASH, ("two", 0, 1)))
        for claim in (("as", "e", "f"), ("right", "f", 0, 3), ("gives", "f", "f", "r"), ("apart", "e", "f")):
            self.chain(True, claim, "bears", *clash)
            self.chain(True, claim, "bars", *clash)
            # A clash further up is as good as none: the last fact counts.
            self.chain(False, claim, "bears", *clash, AC)
            self.chain(False, claim, "bars", *clash, AC)
            self.chain(True, claim, "bears", AC, (("as", "f", "f"), ("self",)), GIVES, GIVES_R, (CLASH, ("two", 2, 3)))
        for claim in (("as", "c", "a"), ("right", "a", 1, 1), ("right", "c", 0, 1), ("gives", "a", "b", "d"),
                      ("apart", "a", "c")):
            self.chain(False, claim, "bears", AC)
        # What is said is not for what bears a claim, not even a needless step of it.
        for said in (("as", "a", "c"), ("as", "f", "b")):
            self.chain(False, said, "bears", (said, ("said",)))
            self.chain(False, said, "bears", GIVES, GIVES_R, (said, ("said",)), (CLASH, ("two", 0, 1)))
            self.chain(True, said, "bars", GIVES, GIVES_R, (said, ("said",)), (CLASH, ("two", 0, 1)))

    def test_bearing_apart(self):
        said = (("as", "a", "e"), ("said",))
        steps = (said, (CLASH, ("against", 0, 7)))
        self.chain(True, ("apart", "a", "e"), "bears", *steps)
        self.chain(False, ("apart", "e", "a"), "bears", *steps)
        self.chain(False, ("apart", "a", "c"), "bears", *steps)
        self.chain(True, ("apart", "a", "e"), "bears", said, said, (CLASH, ("against", 1, 7)))
        self.chain(False, ("apart", "a", "e"), "bears", said)
        self.chain(False, ("apart", "a", "e"), "bears", AC)
        self.chain(False, ("apart", "a", "e"), "bears", (("apart", "a", "e"), ("said",)))
        self.chain(False, ("apart", "a", "e"), "bears", (("as", "e", "a"), ("said",)), (CLASH, ("against", 0, 7)))
        self.chain(True, ("apart", "e", "a"), "bears", (("as", "e", "a"), ("said",)), (CLASH, ("against", 0, 7)))

    def test_barring(self):
        given = (("gives", "c", "b", "r"), ("said",))
        other = (("gives", "c", "b", "s"), ("made", 2, 2))
        self.chain(True, given[0], "bars", given, other, (CLASH, ("two", 0, 1)))
        self.chain(True, given[0], "bars", other, given, given, (CLASH, ("two", 0, 2)))
        self.chain(False, ("gives", "c", "b", "d"), "bars", given, other, (CLASH, ("two", 0, 1)))
        self.chain(False, given[0], "bars", given)
        self.chain(True, ("as", "e", "a"), "bars", (("as", "e", "a"), ("said",)), (CLASH, ("against", 0, 7)))
        self.chain(False, ("as", "a", "e"), "bars", (("as", "e", "a"), ("said",)), (CLASH, ("against", 0, 7)))
        right = ("right", "a", 0, 0)
        self.chain(True, right, "bars", RIGHT, (right, ("said",)), (CLASH, ("ways", 0, 1)))
        self.chain(False, ("as", "a", "c"), "bars", AC)

    def test_barring_apart(self):
        self.chain(True, ("apart", "a", "c"), "bars", AC)
        self.chain(False, ("apart", "c", "a"), "bars", AC)
        self.chain(True, ("apart", "c", "a"), "bars", AC, (("as", "c", "a"), ("turn", 0)))
        self.chain(False, ("apart", "b", "e"), "bars", (("as", "b", "e"), ("said",)))
        self.chain(False, ("apart", "b", "e"), "bars", (("apart", "b", "e"), ("said",)))
        self.chain(True, ("apart", "f", "f"), "bars", (("as", "f", "f"), ("self",)))
        self.chain(False, ("apart", "a", "c"), "bars", (("as", "c", "c"), ("self",)))

    def test_steps_name_earlier_steps(self):
        turned = ("as", "c", "a")
        for index in [1, 2, 5, -1, -2] + NO_INDEXES:
            self.chain(False, turned, "bears", AC, (turned, ("turn", index)), AC, AC)
            self.chain(False, turned, "bears", AC, (turned, ("turn", index)))
        for index in [2, 3, -1, -3, True, False, None, "0", (0,), [1], 10 ** 400]:
            for indexes in ((index, 1), (0, index), (index, index)):
                self.chain(False, ("as", "a", "e"), "bears", AC, CE, (("as", "a", "e"), ("join", *indexes)))
        for index in (True, False, None, -8, "0", 8, 10 ** 400, (), [0], {}):
            self.chain(False, ("as", "a", "c"), "bears", (("as", "a", "c"), ("note", index)))
            self.chain(False, ("gives", "a", "b", "d"), "bears", (GIVES[0], ("made", 0, index)))
            self.chain(False, ("gives", "a", "b", "d"), "bears", (GIVES[0], ("made", index, 2)))

    def test_how_many_a_reason_names(self):
        for claim, steps in REASONS.values():
            fact, reason = steps[-1]
            for wrong in (reason + (0,), reason + (None,), reason[:-1], list(reason), reason[0], (reason,), (), None):
                self.chain(False, claim, "bears", *steps[:-1], (fact, wrong))

    def test_what_is_no_chain(self):
        step = (("as", "f", "f"), ("self",))
        claim = ("as", "f", "f")
        self.chain(True, claim, "bears", step)
        wrongs = NO_LISTS + [(), [step], step, (list(step),), (step + (0,),), (step[:1],), ((step,),), (step, None),
                             (None, step), (step, ()), ((), step), ({0: step},), nested(20), (nested(20),),
                             BOOK, (BOOK,), {step: 0}, "chain", (("as", "f", "f"),), ((["as", "f", "f"], ("self",)),)]
        for value in wrongs:
            before = repr(value)
            self.assertIs(is_chain(BOOK, ALL, claim, "bears", value), False)
            self.assertIs(is_chain(BOOK, ALL, ("apart", "f", "f"), "bars", value), False)
            self.assertEqual(repr(value), before)
        for value in NO_LISTS + NO_INDEXES + [nested(20), BOOK, ("as", ["f"], "f"), ("as", "f"), ("as", "f", "f", "f"),
                                              ("as", "r", "r"), ("as", "x", "x"), ("as", {}, {}), ("selfs",), "clash",
                                              ["clash"], ("clash", 0), ("host", "h"), (("clash",),)]:
            self.chain(False, claim, "bears", (value, ("self",)), step)
            self.chain(False, claim, "bears", (claim, value), step)
            self.chain(False, claim, "bears", (claim, (value,)), step)
            self.chain(False, claim, "bears", value, step)
            self.chain(value == 0 and value is not False, claim, "bears", step, (claim, ("turn", value)), step)

    def test_flags_in_facts(self):
        made = told((), [("right", "a", 0, 1)])
        for fact in (("right", "a", False, 1), ("right", "a", 0, True), ("right", "a", 0, 1.0)):
            self.assertIs(is_chain(made, (0,), ("right", "a", 0, 1), "bears", ((fact, ("note", 0)),)), False)

    def test_long_chains(self):
        steps = [AC]
        while len(steps) < 2000:
            fact = steps[-1][0]
            steps.append((("as", fact[2], fact[1]), ("turn", len(steps) - 1)))
        self.chain(True, ("as", "c", "a"), "bears", *steps)
        self.chain(False, ("as", "a", "c"), "bears", *steps)
        self.chain(False, ("as", "c", "a"), "bears", *steps[:1000], *steps[1001:])
        needless = [(("as", name, name), ("self",)) for name in "abcdef"] * 300
        self.chain(True, ("as", "a", "c"), "bears", *needless, AC)

    def test_each_word_over_all_pairs_of_facts(self):
        # Facts of each kind that share names, so that only the word tells what they can lead to.
        made = Book([("a", 0), ("b", 0), ("d", 1)], ["r"], [("h", 0)],
                    [("h", "a", "b", "d"), ("h", "b", "a", "a"), ("h", "b", "b", "b"), ("h", "a", "b", "r")],
                    [("as", "a", "b"), ("as", "b", "d"), ("right", "a", 0, 1), ("right", "b", 0, 0), ("right", "a", 0, 0),
                     ("apart", "b", "a"), ("apart", "b", "d"), ("host", "h")], (), 0)
        told_steps = [(note, ("note", at)) for at, note in enumerate(made.notes[:5])]
        told_steps += [(("gives",) + making[1:], ("made", at, 7)) for at, making in enumerate(made.makings)]
        told_steps.append((("as", "a", "a"), ("self",)))
        facts = [("as", a, b) for a in "abd" for b in "abd"] + [CLASH, ("right", "b", 0, 1), ("right", "d", 0, 0)]
        facts += [("gives", "b", "b", "d"), ("gives", "b", "b", "r"), ("gives", "d", "a", "a"), ("gives", "a", "b", "d")]
        found = set()
        for word in ("join", "carry", "led", "two", "unfit", "ways", "against", "turn", "made"):
            for first in range(10):
                for second in range(10 if word != "turn" else 1):
                    reason = (word, first, second)[:2 if word == "turn" else 3]
                    for fact in facts:
                        steps = (*told_steps, (fact, reason))
                        claim = ("as", "d", "d") if fact == CLASH else fact
                        wanted = slow_is_chain(made, made.all_notes(), claim, "bears", steps)
                        self.assertIs(is_chain(made, made.all_notes(), claim, "bears", steps), wanted, (reason, fact))
                        if wanted:
                            found.add(word)
        self.assertEqual(len(found), 9)

    def test_what_a_slow_judge_tells(self):
        lot = random.Random(27)
        told_flags = []
        for _ in range(400):
            made = (random_book if lot.random() < 0.5 else doubted_book)(lot)
            claim, word = lot.choice(all_claims(made)), lot.choice(("bears", "bars"))
            kept = sorted(lot.sample(made.all_notes(), lot.randint(0, len(made.notes))))
            steps = chain(made, kept, claim, word)
            for _ in range(8 if steps else 0):
                changed = changed_by_lot(lot, made, steps)
                wanted = slow_is_chain(made, kept, claim, word, changed)
                self.assertIs(is_chain(made, kept, claim, word, changed), wanted, (kept, claim, word, changed))
                told_flags.append(wanted)
        self.assertGreater(told_flags.count(False), 200)
        self.assertGreater(told_flags.count(True), 50)

    def test_wrong(self):
        good = ("as", "ann", "bob")
        for value in NO_BOOKS:
            self.wrong(BadBook, value, is_chain, value, (), good, "bears", ())
            self.wrong(BadBook, value, is_chain, value, None, None, None, None)
        for value in NO_LISTS + [(6,), (-1,), (0, 0), [1, 0], (0, 6), [10 ** 400], ((0,),), (True,), (0, None)]:
            self.wrong(BadKept, value, is_chain, book(), value, good, "bears", ())
            self.wrong(BadKept, value, is_chain, book(), value, None, None, ())
        for value in NO_CLAIMS:
            self.wrong(BadClaim, value, is_chain, book(), (0,), value, "bears", ())
            self.wrong(BadClaim, value, is_chain, book(), [], value, None, ())
        for value in NO_WORDS:
            self.wrong(BadWord, value, is_chain, book(), (0,), good, value, ())


NO_WORDS = NO_LISTS + [(), ("bears",), ["bars"], "bear", "bar", "Bears", "bears ", "sure", "never", {"bears": 1},
                       nested(20)]


def changed_by_lot(lot, made, steps):
    """Steps of which something is changed, left out, doubled or put elsewhere."""
    found = [list(step) for step in steps]
    at = lot.randrange(len(found))
    what = lot.choice(("reason", "fact", "out", "twice", "swap", "word"))
    fact, (word, *indexes) = found[at]
    if what == "reason" and indexes:
        indexes[lot.randrange(len(indexes))] = lot.randint(-1, 6)
        found[at][1] = (word, *indexes)
    elif what == "fact":
        found[at][0] = lot.choice(all_claims(made) + [("clash",)])
    elif what == "out" and len(found) > 1:
        del found[at]
    elif what == "twice":
        found.insert(at, found[at])
    elif what == "swap":
        other = lot.randrange(len(found))
        found[at], found[other] = found[other], found[at]
    elif what == "word":
        found[at][1] = (lot.choice(list(REASONS) + ["said"]), *indexes)
    return tuple(tuple(step) for step in found)


class TestChain(Case):
    def found(self, made, kept, claim, word):
        """The chain that is told; it is let, and there is one just if there should be."""
        steps = chain(made, kept, claim, word)
        wanted = bears(made, kept, claim) if word == "bears" else bars(made, kept, claim)
        self.assertIs(steps is not None, wanted)
        if steps is not None:
            self.assertIs(is_chain(made, kept, claim, word, steps), True)
            self.assertTrue(slow_is_chain(made, kept, claim, word, steps))
            self.assertLessEqual(len(steps), 2000)
        self.same(chain(made, list(kept), claim, word), steps)
        return steps

    def test_claims_of_each_kind(self):
        for notes, claim, word in (
                ([("as", "a", "b"), ("as", "b", "c")], ("as", "c", "a"), "bears"),
                ([("as", "a", "b"), ("right", "a", 0, 1)], ("right", "b", 0, 1), "bears"),
                ([("as", "e", "d"), ("host", "i")], ("gives", "e", "f", "r"), "bears"),
                ([("apart", "b", "a"), ("as", "c", "b")], ("apart", "a", "c"), "bears"),
                ([("apart", "b", "a"), ("as", "c", "b")], ("as", "c", "a"), "bars"),
                ([("host", "i"), ("as", "e", "d")], ("right", "e", 2, 1), "bars"),
                ([("host", "i"), ("as", "e", "d")], ("gives", "e", "f", "s"), "bars"),
                ([("host", "h"), ("right", "a", 0, 1)], ("apart", "d", "b"), "bars")):
            made = told([("i", "d", "f", "r"), ("h", "a", "b", "d")], notes)
            steps = self.found(made, (0, 1), claim, word)
            self.assertIsNotNone(steps)
            for kept in ((0,), (1,), ()):
                self.found(made, kept, claim, word)
            self.assertIsNone(chain(made, (), claim, word))

    def test_one_step(self):
        self.same(chain(BOOK, (0,), ("as", "a", "c"), "bears"), (AC,))
        self.same(chain(BOOK, (0,), ("apart", "a", "c"), "bars"), (AC,))
        self.same(chain(BOOK, (), ("as", "f", "f"), "bears"), ((("as", "f", "f"), ("self",)),))
        self.same(chain(BOOK, (), ("apart", "f", "f"), "bars"), ((("as", "f", "f"), ("self",)),))

    def test_said(self):
        steps = self.found(BOOK, (7,), ("apart", "e", "a"), "bears")
        self.assertEqual(steps[0], (("as", "e", "a"), ("said",)))
        steps = self.found(BOOK, (1,), ("right", "a", 0, 4), "bars")
        self.assertIn((("right", "a", 0, 4), ("said",)), steps)
        # A clash without what is said serves as well.
        self.found(BOOK, (1, 2), ("apart", "e", "f"), "bears")
        self.found(BOOK, (1, 2), ("as", "e", "f"), "bars")
        self.assertIsNone(self.found(BOOK, (), ("as", "e", "f"), "bars"))

    def test_the_empty_book_and_one_thing(self):
        one = Book([("a", 3)], (), (), (), (), (), 0)
        for word in ("bears", "bars"):
            for claim in (("as", "a", "a"), ("apart", "a", "a"), ("right", "a", 3, 3), ("gives", "a", "a", "a")):
                self.found(one, (), claim, word)

    def test_books_by_lot(self):
        lot = random.Random(28)
        found = []
        for at in range(200):
            made = (random_book if at % 2 else doubted_book)(lot)
            kept = sorted(lot.sample(made.all_notes(), lot.randint(0, len(made.notes))))
            claims = all_claims(made)
            for claim in lot.sample(claims, min(3, len(claims))):
                found += [self.found(made, kept, claim, word) for word in ("bears", "bars")]
        words = {reason[0] for steps in found if steps for _, reason in steps}
        self.assertEqual(words, set(REASONS) | {"said"})
        self.assertGreater(found.count(None), 200)

    def test_large_books(self):
        for made in (full_book(), many_ways_book()):
            closing = Closing(made, made.all_notes(), None)
            for claim in (("as", "tb", "tf"), ("right", "ta", 0, 1), ("right", "ta", 0, 3), ("gives", "tf", "td", "sd"),
                          ("apart", "ta", "td"), ("apart", "ti", "tj"), ("gives", "ta", "tf", "tf")):
                bear, bar = [chain(made, made.all_notes(), claim, word) for word in ("bears", "bars")]
                self.assertIs(bear is not None, closing.has(claim))
                self.assertIs(bar is not None, not closing.allows(claim))
                for word, steps in (("bears", bear), ("bars", bar)):
                    if steps:
                        self.assertIs(is_chain(made, made.all_notes(), claim, word, steps), True)

    def test_long_rows_of_things(self):
        names = ["t" + letter for letter in "abcdefghijklmnop"]
        notes = [("as", b, a) for a, b in zip(names, names[1:])]
        lot = random.Random(1)
        lot.shuffle(notes)
        made = Book([(name, 0) for name in names], ["r", "s"], [("h", 0)],
                    [("h", "ta", name, name) for name in names] + [("h", "tp", "ta", "r")],
                    notes + [("right", "tg", 0, 0), ("host", "h")], (), 0)
        for claim, word in ((("as", "ta", "tp"), "bears"), (("apart", "ta", "tp"), "bars"),
                            (("right", "tp", 0, 0), "bears"), (("gives", "tp", "tg", "tg"), "bears"),
                            (("gives", "tp", "tg", "th"), "bars"),
                            (("right", "tp", 0, 1), "bars"), (("apart", "tc", "td"), "bears")):
            for kept in (made.all_notes(), made.all_notes()[:-1]):
                steps = chain(made, kept, claim, word)
                closing = Closing(made, kept, None)
                wanted = closing.has(claim) or closing.clashes() if word == "bears" else not closing.allows(claim)
                self.assertIs(steps is not None, wanted)
                if steps:
                    self.assertIs(is_chain(made, kept, claim, word, steps), True)
                    self.assertLessEqual(len(steps), 2000)

    def test_wrong(self):
        good = ("as", "ann", "bob")
        for value in NO_BOOKS:
            self.wrong(BadBook, value, chain, value, (), good, "bears")
            self.wrong(BadBook, value, chain, value, None, None, None)
        for value in NO_LISTS + [(6,), (-1,), (0, 0), [1, 0], (0, 6), [10 ** 400], ((0,),), (True,), (0, None)]:
            self.wrong(BadKept, value, chain, book(), value, good, "bears")
            self.wrong(BadKept, value, chain, book(), value, None, None)
        for value in NO_CLAIMS:
            self.wrong(BadClaim, value, chain, book(), (0,), value, "bears")
            self.wrong(BadClaim, value, chain, EMPTY_BOOK, (), value, None)
        for value in NO_WORDS:
            self.wrong(BadWord, value, chain, book(), (0,), good, value)


class TestNotesUsed(Case):
    def test_doubtful_notes_alone(self):
        wanted = {"note": [], "self": [], "turn": [0], "join": [0, 5], "made": [2], "carry": [0, 2], "led": [2],
                  "two": [2], "unfit": [2], "ways": [0], "against": [2, 3]}
        for word, (_, steps) in REASONS.items():
            self.same(notes_used(BOOK, steps), wanted[word])

    def test_each_once_and_ascending(self):
        self.same(notes_used(BOOK, (CE, CE, AC, AC, GIVES, CE)), [0, 2, 5])
        self.same(notes_used(BOOK, (RIGHT, (("as", "f", "f"), ("self",)))), [])
        said = ((("as", "a", "e"), ("said",)), (CLASH, ("against", 0, 7)))
        self.same(notes_used(BOOK, said), [7])

    def test_steps_and_makings_are_no_notes(self):
        # The indexes of steps and of makings are those of doubtful notes, too.
        steps = (RIGHT, RIGHT, (("right", "a", 0, 1), ("note", 1)), (("as", "b", "b"), ("self",)),
                 (("as", "b", "b"), ("turn", 3)), (("as", "b", "b"), ("join", 3, 4)), (("as", "b", "b"), ("turn", 5)))
        self.same(notes_used(BOOK, steps), [])
        self.same(notes_used(BOOK, ((("gives", "c", "b", "s"), ("made", 2, 2)),)), [2])
        self.same(notes_used(BOOK, ((("gives", "d", "e", "f"), ("made", 3, 6)),)), [])

    def test_no_book(self):
        for value in NO_BOOKS:
            self.wrong(BadBook, value, notes_used, value, (AC,))

    def test_new_lists(self):
        notes_used(BOOK, (AC,)).clear()
        self.same(notes_used(BOOK, (AC,)), [0])


if __name__ == "__main__":
    unittest.main()
