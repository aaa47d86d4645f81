"""Points [31] to [33]."""

import random
import unittest
from itertools import combinations

from tests.cases import EMPTY_BOOK, NO_FORMS, NO_LISTS, NO_NAMES, Case, nested
from tests.doubts import MAKERS, doubted_book, full_book, planned_book, told
from tests.samples import book, names, random_book
from tests.slow import had as slow_had
from tests.slow import is_plan as slow_is_plan
from tests.test_books import NO_BOOKS
from trulymade.books import Book
from trulymade.closing import Closing
from trulymade.errors import BadBook, BadForm, BadKept, BadName, BadPlanned, Clashes
from trulymade.plans import depth_of, grown, had, is_plan, plan, seeds

ALL = MAKERS.all_notes()

NO_KEPT = NO_LISTS + [(6,), (-1,), (0, 0), [1, 0], (0, 6), [10 ** 400], ((0,),), (True,), (0, None), nested(20)]
# What is no thing of the sample book.
NO_THINGS_OF = NO_NAMES + ["eve", "rag", "hal", "annn"]

X1 = ("h", "m", "x", "one", 1)
N0 = ("h", "m", "n", "two", 0)
X2 = ("h", "two", "one", "three", 2)
X3 = ("j", "o", "three", "four", 3)


class TestHad(Case):
    def test_depths(self):
        wanted = {("m", 0): 0, ("m", 1): 0, ("m", 2): 2, ("m", 3): 3,
                  ("y", 0): 0, ("y", 1): 0, ("y", 2): 2, ("y", 3): 3,
                  ("n", 3): 0, ("n", 0): 1, ("n", 1): 2, ("n", 2): 3,
                  ("o", 2): 0, ("o", 3): 1, ("o", 0): 2, ("o", 1): 3,
                  ("p", 4): 0, ("x", 0): 0, ("x", 1): 1, ("x", 2): 2, ("x", 3): 3,
                  ("q", 0): 0, ("q", 1): 1, ("q", 2): 2, ("q", 3): 3}
        self.assertEqual(had(MAKERS, ALL), wanted)
        self.assertEqual(had(MAKERS, list(ALL)), wanted)
        for key, depth in had(MAKERS, ALL).items():
            self.assertIs(type(key), tuple)
            self.assertIs(type(depth), int)

    def test_hosts_that_are_not_trusted(self):
        bare = {(name, form): 0 for name, form in MAKERS.things}
        self.assertEqual(had(MAKERS, MAKERS.sure_notes()), bare)
        self.assertEqual(had(MAKERS, ()), bare)
        self.assertEqual(had(MAKERS, (0, 1, 2, 3, 4, 6)), bare)
        # A host without any note runs nothing that counts, also if there is one of its form with a note.
        notes = [("right", "p", 0, 4), ("host", "z")]
        other = Book(MAKERS.things, (), [("h", 0), ("z", 0), ("free", 4)], (), notes, (), 0)
        self.assertEqual(had(other, (0, 1)), bare)
        trusted = other.with_note(("host", "free"), False)
        self.assertEqual(had(trusted, (0, 1, 2)), {**bare, ("m", 4): 1, ("x", 4): 1, ("q", 4): 1})

    def test_by_another_maker(self):
        kept = (0, 1, 2, 3, 4, 6, 8)
        self.assertEqual(had(MAKERS, kept)[("x", 2)], 3)
        self.assertNotIn(("x", 3), had(MAKERS, kept))
        self.assertEqual(had(MAKERS, (0, 1, 2, 3, 4, 5, 7))[("y", 0)], 4)

    def test_the_least_of_several_depths(self):
        # What is had by two makings in a row is had by one as well.
        things = [("a", 0), ("b", 0), ("c", 0), ("d", 1)]
        notes = [("host", "h"), ("right", "a", 1, 2), ("right", "b", 0, 1), ("right", "a", 0, 2)]
        made = Book(things, (), [("h", 0)], (), notes, (), 0)
        self.assertEqual(had(made, (0, 1, 2))[("c", 2)], 2)
        self.assertEqual(had(made, (0, 1, 2, 3))[("c", 2)], 1)
        self.assertEqual(had(made.with_note(("as", "c", "d"), False), (0, 1, 2, 4))[("c", 2)], 1)

    def test_makers_at_hand_at_their_least_depth(self):
        # The maker c is led from 4 to 1, from there to 2: at hosts of these two it can run.
        notes = [("host", "h"), ("right", "a", 4, 1), ("right", "b", 1, 2), ("right", "c", 0, 3), ("host", "j"),
                 ("host", "i")]
        made = Book([("a", 0), ("b", 0), ("c", 4), ("x", 0)], (), [("h", 0), ("i", 1), ("j", 2)], (), notes, (), 0)
        self.assertNotIn(("x", 3), had(made, (0, 1, 2, 3)))
        self.assertEqual(had(made, (0, 1, 2, 3, 4))[("x", 3)], 3)
        self.assertEqual(had(made, (0, 1, 2, 3, 5))[("x", 3)], 2)
        self.assertEqual(had(made, (0, 1, 2, 3, 4, 5))[("x", 3)], 2)

    def test_whether_it_clashes_does_not_matter(self):
        made = MAKERS.with_note(("right", "m", 0, 4), False)
        self.assertTrue(Closing(made, made.all_notes(), None).clashes())
        found = had(made, made.all_notes())
        self.assertEqual((found[("x", 1)], found[("x", 4)]), (1, 1))
        self.assertEqual(found, slow_had(made, made.all_notes()))

    def test_books_by_lot(self):
        lot = random.Random(31)
        depths = []
        for at in range(240):
            made = (planned_book, planned_book, random_book, doubted_book)[at % 4](lot)
            kept = sorted(lot.sample(made.all_notes(), lot.randint(len(made.notes) // 2, len(made.notes))))
            found = had(made, kept)
            self.assertEqual(found, slow_had(made, kept))
            depths += found.values()
        self.assertGreater(max(depths), 3)

    def test_the_empty_book_and_new_dicts(self):
        self.same(had(EMPTY_BOOK, ()), {})
        had(MAKERS, ALL).clear()
        self.assertEqual(had(MAKERS, ALL)[("x", 3)], 3)

    def test_wrong(self):
        for value in NO_BOOKS:
            self.wrong(BadBook, value, had, value, ())
            self.wrong(BadBook, value, had, value, None)
        for value in NO_KEPT:
            self.wrong(BadKept, value, had, book(), value)


class TestPlan(Case):
    def planned(self, made, kept, name, form):
        """The plan that is told; it is let, and there is one just if the thing is had in the form."""
        told_plan = plan(made, kept, name, form)
        self.same(plan(made, list(kept), name, form), told_plan)
        depth = had(made, kept).get((name, form))
        self.assertIs(told_plan is None, depth is None)
        if told_plan is not None:
            self.assertIs(is_plan(made, kept, name, form, told_plan), True)
            self.assertTrue(slow_is_plan(made, kept, name, form, told_plan))
            self.same(depth_of(told_plan), depth)
            self.thrifty(made, kept, told_plan)
        return told_plan

    def thrifty(self, made, kept, told_plan):
        """Each class is made at most once in each form, and in none that it has."""
        firsts = {name: group[0] for group in Closing(made, kept, None).classes() for name in group}
        seen = {(firsts[name], form) for name, form in made.things}
        for _, _, thing, outcome, form in told_plan:
            firsts[outcome] = firsts[thing]
            self.assertNotIn((firsts[outcome], form), seen)
            seen.add((firsts[outcome], form))

    def test_depths(self):
        for form, depth in ((0, 0), (1, 1), (2, 2), (3, 3)):
            self.same(depth_of(self.planned(MAKERS, ALL, "x", form)), depth)
        self.assertEqual(len(plan(MAKERS, ALL, "x", 3)), 4)
        self.assertEqual(len(self.planned(MAKERS, (0, 1, 2, 3, 4, 5, 7), "y", 0)), 4)

    def test_what_the_class_has_and_what_is_not_had(self):
        self.same(plan(MAKERS, ALL, "x", 0), ())
        self.same(plan(MAKERS, ALL, "y", 0), ())
        self.same(plan(MAKERS, (), "y", 1), ())
        self.assertIsNone(plan(MAKERS, ALL, "x", 4))
        self.assertIsNone(plan(MAKERS, (), "x", 1))
        self.assertIsNone(plan(MAKERS, (0, 1, 2, 3, 4, 6), "x", 1))

    def test_an_outcome_that_stands_already(self):
        made = MAKERS.with_thing("z", 1).with_making(("h", "m", "x", "z"))
        self.same(plan(made, ALL, "x", 1), ())
        self.assertEqual(len(self.planned(made, ALL, "q", 1)), 1)
        self.same(plan(made, (0, 1, 2, 3, 6), "x", 1), None)

    def test_names_that_stand_already(self):
        first = plan(MAKERS, ALL, "x", 3)
        taken = [making[3] for making in first]
        made = MAKERS.with_thing(taken[0], 4).with_host(taken[1], 4).with_scrap(taken[2])
        self.planned(made, ALL, "x", 3)

    def test_makers_that_are_led_by_themselves(self):
        made = Book([("a", 0), ("x", 0)], (), [("h", 0), ("i", 1)], (),
                    [("right", "a", 0, 1), ("host", "h"), ("host", "i"), ("right", "a", 1, 2)], (), 0)
        self.assertEqual(len(self.planned(made, (0, 1, 2, 3), "a", 1)), 1)
        self.assertEqual(len(self.planned(made, (0, 1, 2, 3), "x", 2)), 2)
        self.assertEqual(len(self.planned(made, (0, 1, 2, 3), "a", 2)), 2)

    def test_more_things_than_a_book_can_have(self):
        # What is of form 4 must be led to form 0 before it can run.
        things = [("t" + letter, 4) for letter in "abcdefghijklmn"] + [("x", 0), ("z", 0)]
        notes = [("right", "z", 4, 0), ("right", "ta", 0, 1), ("right", "tb", 1, 2), ("right", "tc", 2, 3),
                 ("host", "h")]
        made = Book(things, ["r"] + names(5, "s"), [("h", 0)], (), notes, (), 0)
        self.assertEqual(len(self.planned(made, (0, 1, 2, 3, 4), "x", 3)), 6)

    def test_books_by_lot(self):
        lot = random.Random(32)
        told_plans = []
        for _ in range(120):
            made = planned_book(lot)
            for name, _ in made.things[::2]:
                for form in range(5):
                    if Closing(made, made.all_notes(), None).clashes():
                        self.wrong(Clashes, None, plan, made, made.all_notes(), name, form)
                    else:
                        told_plans.append(self.planned(made, made.all_notes(), name, form))
        lengths = [len(one) for one in told_plans if one is not None]
        self.assertGreater(max(lengths), 3)
        self.assertGreater(lengths.count(1), 20)
        self.assertGreater(told_plans.count(None), 20)

    def test_wrong(self):
        for function, last in ((plan, ()), (is_plan, ((),))):
            for value in NO_BOOKS:
                self.wrong(BadBook, value, function, value, (), "ann", 0, *last)
                self.wrong(BadBook, value, function, value, None, None, None, *last)
            clashing = book(notes=(("apart", "ann", "ann"),), doubtful=(), lies=0)
            for value in NO_KEPT:
                self.wrong(BadKept, value, function, book(), value, "ann", 0, *last)
                self.wrong(BadKept, value, function, book(), value, None, None, *last)
            for value in NO_THINGS_OF:
                self.wrong(BadName, value, function, book(), (0,), value, 0, *last)
                self.wrong(BadName, value, function, clashing, (0,), value, None, *last)
            for value in NO_FORMS:
                self.wrong(BadForm, value, function, book(), (0,), "ann", value, *last)
                self.wrong(BadForm, value, function, clashing, (0,), "ann", value, *last)
            for form in range(5):
                self.wrong(Clashes, None, function, clashing, [0], "ann", form, *last)
            self.assertIn(function(clashing, [], "ann", 0, *last), ((), True))


class TestIsPlan(Case):
    def plan(self, wanted, name, form, *planned, made=MAKERS, kept=ALL):
        before = repr(planned)
        self.assertIs(is_plan(made, kept, name, form, planned), wanted)
        self.assertIs(is_plan(made, list(kept), name, form, planned), wanted)
        self.assertIs(slow_is_plan(made, kept, name, form, planned), wanted)
        self.assertEqual(repr(planned), before)

    def test_plans(self):
        self.plan(True, "x", 1, X1)
        self.plan(True, "x", 2, X1, N0, X2)
        self.plan(True, "x", 2, N0, X1, X2)
        self.plan(True, "x", 3, N0, X1, X2, X3)
        self.plan(False, "x", 2, X1, N0)
        self.plan(True, "n", 0, X1, N0)

    def test_the_empty_plan(self):
        for name, form in MAKERS.things:
            for wanted in range(5):
                self.plan(wanted == form or (name in ("m", "y") and wanted < 2), name, wanted)

    def test_thing_and_form(self):
        self.plan(False, "x", 2, X1)
        self.plan(False, "q", 1, X1)
        self.plan(False, "x", 0, X1)
        # A thing that is the same is as good.
        same = MAKERS.with_note(("as", "x", "q"), False)
        self.plan(True, "q", 1, X1, made=same, kept=same.all_notes())
        self.plan(False, "q", 1, X1, made=same, kept=ALL)

    def test_needless_makings_and_more_than_the_least_depth(self):
        q1 = ("h", "m", "q", "five", 1)
        q2 = ("h", "two", "five", "six", 2)
        self.plan(True, "x", 1, q1, N0, q2, X1)
        # One that the class has already: y is of the class of m, and of form 1.
        self.plan(True, "m", 1, ("h", "m", "m", "five", 1))
        self.plan(True, "y", 1, ("h", "m", "m", "five", 1))
        deep = [("i", "y", "q", "five", 1), X1, N0, X2, X3, ("h", "m", "four", "six", 0), ("h", "m", "six", "seven", 1)]
        self.plan(True, "x", 1, *deep)
        self.plan(True, "x", 0, *deep[:-1])
        self.assertEqual(depth_of(tuple(deep)), 5)

    def test_twice_from_one_thing(self):
        self.plan(False, "x", 1, X1, ("h", "m", "x", "five", 1))
        # Not by one that is the same either, nor in the book; but from another thing of the class.
        self.plan(False, "x", 1, X1, ("i", "y", "x", "five", 1))
        made = MAKERS.with_thing("z", 1).with_making(("h", "m", "x", "z"))
        self.plan(False, "x", 1, X1, made=made)
        self.plan(False, "x", 1, ("i", "y", "x", "five", 1), made=made)
        self.plan(True, "x", 1, X1, ("h", "m", "w", "five", 1), kept=ALL + (10,),
                  made=MAKERS.with_thing("w", 0).with_note(("as", "x", "w"), False))

    def test_makings_at_hosts_without_a_kept_note_do_not_count(self):
        made = MAKERS.with_host("z", 0).with_thing("w", 1).with_making(("z", "m", "x", "w"))
        self.plan(True, "x", 1, X1, made=made)

    def test_hosts(self):
        self.plan(False, "x", 1, X1, kept=(0, 1, 2, 3, 4, 6, 7, 8, 9))
        self.plan(False, "x", 1, X1, kept=())
        self.plan(True, "x", 1, X1, kept=(0, 5))
        for host in ("i", "j", "k", "free", "m", "rag", "x", "eve"):
            self.plan(False, "x", 1, (host,) + X1[1:])
        self.plan(True, "x", 1, ("i", "y", "x", "one", 1))
        self.plan(False, "x", 1, ("h", "y", "x", "one", 1))
        self.plan(True, "x", 3, X1, N0, X2, X3)
        self.plan(False, "x", 3, X1, N0, X2, ("k",) + X3[1:])

    def test_makers_and_things(self):
        for maker in ("x", "q", "n", "p", "y", "rag", "h", "one", "two"):
            self.plan(False, "x", 1, ("h", maker) + X1[2:])
        for thing in ("y", "n", "o", "p", "rag", "h", "one", "two"):
            self.plan(False, "x", 1, X1[:2] + (thing,) + X1[3:])
        # What is made later is not there yet.
        self.plan(False, "x", 2, X1, X2, N0)
        self.plan(False, "x", 2, X2, X1, N0)
        self.plan(False, "x", 2, X1, X2)
        self.plan(False, "x", 1, ("h", "m", "one", "one", 1))

    def test_ways(self):
        for form in (0, 2, 3, 4):
            self.plan(False, "x", form, X1[:4] + (form,))
        self.plan(False, "x", 1, X1, kept=(5,))
        self.plan(False, "x", 2, X1, N0, X2, kept=(0, 1, 5))
        self.plan(True, "x", 2, X1, N0, X2, kept=(0, 1, 2, 5))

    def test_outcome_names(self):
        for name in ("m", "x", "rag", "h", "free"):
            self.plan(False, "x", 1, X1[:3] + (name, 1))
        self.plan(False, "x", 2, X1, N0[:3] + ("one", 0), X2)
        for value in NO_NAMES:
            self.assertIs(is_plan(MAKERS, ALL, "x", 1, (X1[:3] + (value, 1),)), False)

    def test_long_plans(self):
        # From form 0 to 0: what is made can be made anew for ever.
        made = Book([("a", 0), ("x", 0)], (), [("h", 0)], (), [("right", "a", 0, 0), ("host", "h")], (), 0)
        letters = "abcdefghijklmnopqrstuvwxyz"
        outcomes = ["n" + one + two for one in letters for two in letters]
        planned = [("h", "a", thing, outcome, 0) for thing, outcome in zip(["x"] + outcomes, outcomes[:300])]
        self.assertIs(is_plan(made, (0, 1), "x", 0, tuple(planned)), True)
        self.assertIs(is_plan(made, (0, 1), "a", 0, tuple(planned)), False)
        self.same(depth_of(tuple(planned)), 300)
        self.assertIs(is_plan(made, (0, 1), "x", 0, tuple(planned[:200] + planned[201:])), False)
        self.assertIs(is_plan(made, (0, 1), "x", 0, tuple(planned + [("h", "a", "x", "zz", 0)])), False)
        self.assertIs(is_plan(made, (0, 1), "x", 0, tuple(planned + [("h", "a", "a", "zz", 0)])), False)
        self.assertIs(is_plan(made, (0, 1), "a", 0, tuple(planned + [("h", "a", "a", "zz", 0)])), True)

    def test_what_is_no_plan(self):
        for value in NO_LISTS + [[], [X1], X1, (list(X1),), (X1, None), (None, X1), (X1[:4],), (X1 + (0,),), ((X1,),),
                                 nested(20), (nested(20),), {X1: 0}, {}, (X1, X1), (X1, MAKERS), ((),), "plan"]:
            before = repr(value)
            for form in (0, 1):
                self.assertIs(is_plan(MAKERS, ALL, "x", form, value), False)
            self.assertEqual(repr(value), before)
        for at in range(5):
            for value in NO_LISTS + NO_FORMS + [("h",), ["m"], nested(20), {"x": 0}]:
                wrong = X1[:at] + (value,) + X1[at + 1:]
                if wrong != X1 or isinstance(value, bool):
                    self.assertIs(is_plan(MAKERS, ALL, "x", 1, (wrong,)), at == 3 and value == "ab")

    def test_changed_by_lot(self):
        lot = random.Random(33)
        flags = []
        while len(flags) < 600:
            made = planned_book(lot)
            kept = made.all_notes()
            name, form = lot.choice(made.things)[0], lot.randint(0, 4)
            if not Closing(made, kept, None).clashes():
                told_plan = plan(made, kept, name, form)
                for _ in range(3 if told_plan else 0):
                    planned = changed_by_lot(lot, made, told_plan)
                    wanted = slow_is_plan(made, kept, name, form, planned)
                    self.assertIs(is_plan(made, kept, name, form, planned), wanted)
                    flags.append(wanted)
        self.assertGreater(flags.count(True), 40)
        self.assertGreater(flags.count(False), 200)


def changed_by_lot(lot, made, planned):
    """A plan of which something is changed, left out, doubled or put elsewhere."""
    found = list(planned)
    at = lot.randrange(len(found))
    known = [name for name, _ in made.things] + [making[3] for making in found]
    what = lot.choice(("item", "item", "out", "more", "swap"))
    if what == "item":
        place = lot.randrange(5)
        choice = (lot.choice(made.hosts)[0], lot.choice(known), lot.choice(known), lot.choice(known + ["zz"]),
                  lot.randint(0, 4))[place]
        found[at] = found[at][:place] + (choice,) + found[at][place + 1:]
    elif what == "out":
        del found[at]
    elif what == "more":
        host, maker, _, _, form = found[at]
        found.insert(lot.randrange(len(found)), (host, maker, lot.choice(known), "more", form))
    else:
        other = lot.randrange(len(found))
        found[at], found[other] = found[other], found[at]
    return tuple(found)


class TestDepthOf(Case):
    def test_depths(self):
        self.same(depth_of(()), 0)
        self.same(depth_of((X1,)), 1)
        self.same(depth_of((X1, N0)), 1)
        self.same(depth_of((X1, N0, X2)), 2)
        self.same(depth_of((X1, N0, X2, X3)), 3)
        self.same(depth_of((N0, X1, X2, ("h", "m", "q", "five", 1))), 1)


class TestGrown(Case):
    def test_grown(self):
        for planned in ((X1, N0, X2), [X1, N0, X2]):
            told_book = grown(MAKERS, planned)
            self.assertEqual(told_book, Book(
                MAKERS.things + (("one", 1), ("two", 0), ("three", 2)), MAKERS.scraps, MAKERS.hosts,
                MAKERS.makings + (("h", "m", "x", "one"), ("h", "m", "n", "two"), ("h", "two", "one", "three")),
                MAKERS.notes, MAKERS.doubtful, MAKERS.lies))
        self.assertEqual(grown(MAKERS, ()), MAKERS)
        self.assertEqual(grown(MAKERS, []), MAKERS)

    def test_the_class_is_had_then(self):
        for form in (1, 2, 3):
            told_book = grown(MAKERS, plan(MAKERS, ALL, "x", form))
            closing = Closing(told_book, ALL, None)
            self.assertIs(closing.clashes(), False)
            self.assertIs(closing.same("x", told_book.things[-1][0]), True)
            self.same(told_book.things[-1][1], form)
            self.same(had(told_book, ALL)[("x", form)], 0)
            self.same(plan(told_book, ALL, "x", form), ())

    def test_makings_that_a_book_can_have_though_no_plan_can(self):
        told_book = grown(MAKERS, [("k", "o", "p", "one", 1)])
        self.same(told_book.makings, (("k", "o", "p", "one"),))

    def test_bad_planned(self):
        for value in NO_LISTS:
            self.wrong(BadPlanned, -1, grown, MAKERS, value)
        for value in NO_LISTS + [(), X1[:4], X1 + (0,), list(X1), (X1,), nested(20), X1[:4] + (5,), X1[:4] + (True,),
                                 X1[:4] + (None,), X1[:3] + ("x", 1), X1[:3] + ("rag", 1), X1[:3] + ("free", 1)]:
            self.wrong(BadPlanned, 0, grown, MAKERS, [value, None])
            self.wrong(BadPlanned, 1, grown, MAKERS, (("h", "m", "x", "eve", 1), value))
        for value in NO_NAMES:
            self.wrong(BadPlanned, 0, grown, MAKERS, [X1[:3] + (value, 1)])
        for value in NO_FORMS:
            self.wrong(BadPlanned, 1, grown, MAKERS, [N0, X1[:4] + (value,)])
        self.wrong(BadPlanned, 1, grown, MAKERS, [X1, N0[:3] + ("one", 0)])
        # What is no planned making comes ahead of what the book does not let.
        self.wrong(BadPlanned, 1, grown, MAKERS, [("eve", "m", "x", "one", 1), None])

    def test_bad_books(self):
        for planned in (("eve", "m", "x", "one", 1), ("i", "m", "x", "one", 1), ("h", "rag", "x", "one", 1),
                        ("h", "m", "rag", "one", 1), ("h", "m", "three", "one", 1), (None, "m", "x", "one", 1),
                        ("h", ["m"], "x", "one", 1), ("h", "m", {}, "one", 1)):
            self.wrong(BadBook, ("makings", 0), grown, MAKERS, [planned])
            self.wrong(BadBook, ("makings", 1), grown, MAKERS, [N0, planned, planned[:3] + ("two", None)][:2])
        self.assertEqual(len(grown(MAKERS, [("h", "two", "x", "one", 1), N0]).makings), 2)

    def test_beyond_the_bounds(self):
        planned = [("h", "m", "x", name, 1) for name in names(20, "w")]
        self.assertEqual(len(grown(MAKERS, planned[:9]).things), 16)
        self.wrong(BadBook, ("things", -1), grown, MAKERS, planned[:10])
        self.wrong(BadBook, ("things", -1), grown, MAKERS, planned)
        self.wrong(BadPlanned, 19, grown, MAKERS, planned[:19] + [None])
        full = full_book()
        few = Book(full.things[:15], full.scraps, full.hosts, [], [], [], 0)
        makings = [("ha", a, b, c) for a in ("ta", "tf", "tk") for b in ("ta", "tb") for c in names(5, "t")]
        full = Book(few.things, few.scraps, few.hosts, makings, [], [], 0)
        self.assertEqual(len(full.makings), 30)
        self.wrong(BadBook, ("makings", -1), grown, full, [("ha", "ta", "tc", "w", 1)])
        self.wrong(BadBook, ("things", -1), grown, full, [("ha", "ta", "tc", "w", 1), ("ha", "ta", "tc", "v", 1)])

    def test_no_book(self):
        for value in NO_BOOKS:
            self.wrong(BadBook, value, grown, value, ())
            self.wrong(BadBook, value, grown, value, None)


class TestSeeds(Case):
    def slow_seeds(self, made, name, form):
        sure = [at for at in made.all_notes() if at not in made.doubtful]
        lots = [lot for many in range(len(made.doubtful) + 1) for lot in combinations(made.doubtful, many)
                if (name, form) in slow_had(made, sorted(sure + list(lot)))]
        return [lot for lot in lots if not any(set(other) < set(lot) for other in lots)]

    def test_seeds(self):
        for name, form, wanted in (("x", 0, [()]), ("x", 1, [(5,), (6, 8)]), ("x", 2, [(5,), (6, 8)]),
                                   ("x", 3, [(5, 7), (6, 7, 8)]), ("x", 4, []), ("y", 0, [(8,), (5, 7)]),
                                   ("y", 1, [()])):
            self.same(seeds(MAKERS, name, form), wanted)
            self.same(self.slow_seeds(MAKERS, name, form), wanted)
            self.same(seeds(MAKERS.with_lies(3), name, form), wanted)

    def test_whether_it_clashes_does_not_matter(self):
        made = told((), [("right", "a", 0, 1), ("right", "a", 0, 2), ("apart", "b", "b"), ("host", "h")], (1, 3), 0)
        self.same(seeds(made, "c", 1), [(3,)])
        self.same(seeds(made, "c", 2), [(1, 3)])

    def test_books_by_lot(self):
        lot = random.Random(34)
        found = []
        for at in range(50):
            made = (planned_book, planned_book, doubted_book)[at % 3](lot)
            for _ in range(3):
                name, form = lot.choice(made.things)[0], lot.randint(0, 4)
                if len(made.doubtful) < 6:
                    found.append(seeds(made, name, form))
                    self.same(found[-1], self.slow_seeds(made, name, form))
        self.assertGreater(max(map(len, found)), 1)

    def test_new_lists(self):
        seeds(MAKERS, "x", 1).clear()
        self.same(seeds(MAKERS, "x", 1), [(5,), (6, 8)])

    def test_wrong(self):
        for value in NO_BOOKS:
            self.wrong(BadBook, value, seeds, value, "ann", 0)
            self.wrong(BadBook, value, seeds, value, None, None)
        for value in NO_THINGS_OF:
            self.wrong(BadName, value, seeds, book(), value, 0)
            self.wrong(BadName, value, seeds, book(), value, None)
        for value in NO_FORMS:
            self.wrong(BadForm, value, seeds, book(), "ann", value)


if __name__ == "__main__":
    unittest.main()
