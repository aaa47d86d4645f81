"""Points [9], [10] and [11]."""

import random
import unittest

from tests.cases import Case, made, no_rows, no_things, random_row, random_rules, sized
from tests.slow import Slow
from trulymade.errors import BadRow, BadThing, Finished, NothingDone, TooLong
from trulymade.programs import own_row
from trulymade.rows import thing_of
from trulymade.rules import body_for
from trulymade.running import Machine, run

# Copies a row and adds one to each sign; says 7 for 5; stops at 9; says 50 at the end.
COPIER = made([(0, 5, [("put", (7,))], 0), (0, 9, (("put", (1,)),), 3), (0, "other", [("plus", 1)], 0),
               (0, "end", [("put", (50,))], None)])
# Writes 99 signs for each sign, and 20 at the end.
HUNDREDS = made([(0, "other", [("put", (4,) * 99)], 0), (0, "end", [("put", (5,) * 20)], None)])


def writer(many):
    """Items that write so many signs."""
    return [("put", (8,) * 99)] * (many // 99) + [("put", (8,) * (many % 99))]


class TestRun(Case):
    def test_ordinary_rules(self):
        self.same(run(COPIER, (1, 5, 99, 0)), (2, 7, 0, 1, 50))
        self.same(run(list(COPIER), [1, 5]), (2, 7, 50))
        self.same(run(COPIER, ()), (50,))
        self.same(run(COPIER, []), (50,))

    def test_a_thing_that_stops_writes_nothing_more(self):
        # At 9 the new stand is 3, where no rule fits, not even for the end.
        self.same(run(COPIER, (1, 9, 1, 1)), (2, 1))
        self.same(run(COPIER, (1, 9)), (2, 1))
        stopper = made([(0, 1, [("plus", 0)], 0), (0, "end", [("put", (8,))], None)])
        self.same(run(stopper, (1, 1)), (1, 1, 8))
        self.same(run(stopper, (1, 2, 1)), (1,))
        self.same(run(stopper, (2,)), ())

    def test_no_rules(self):
        for thing in ((0, 0), (1, 5), (0, 0, 3), (4, 99, 80), (0, 1, 0, 9, 9)):
            for row in ((), (1,), (1, 2, 3)):
                self.same(run(thing, row), ())

    def test_the_first_rule_is_taken(self):
        thing = made([(0, "other", [("put", (1,))], 0), (0, 5, [("put", (2,))], 0),
                      (0, 5, [("put", (3,))], 1), (0, "other", [("put", (4,))], 1),
                      (0, "end", [("put", (6,))], None), (0, "end", [("put", (7,))], None)])
        self.same(run(thing, (5, 4, 5)), (2, 1, 2, 6))

    def test_stands(self):
        thing = made([(3, 1, (), 4), (4, 1, [("put", (1,))], 3), (3, "other", [("put", (2,))], 3),
                      (4, "end", [("put", (4,))], None), (3, "end", [("put", (3,))], None)], 3)
        self.same(run(thing, (1, 1, 1, 1)), (1, 1, 3))
        self.same(run(thing, (2, 1, 1, 5)), (2, 1, 2, 3))
        self.same(run(thing, (1,)), (4,))
        self.same(run(thing, (1, 2, 1)), ())

    def test_signs_and_other_are_told_from_the_end(self):
        thing = made([(0, 0, [("put", (1,))], 0), (0, 1, [("put", (2,))], 0), (0, 2, [("put", (3,))], 0)])
        self.same(run(thing, (0, 1, 2)), (1, 2, 3))

    def test_items_are_written_in_order(self):
        thing = made([(0, "other", [("plus", 0), ("put", (9, 9)), ("plus", 99), ("put", ()), ("put", (1,))], 0)])
        self.same(run(thing, (0, 50)), (0, 9, 9, 99, 1, 50, 9, 9, 49, 1))

    def test_a_plus_in_a_rule_for_the_end_writes_nothing(self):
        thing = made([(0, "end", [("plus", 5), ("put", (3,)), ("plus", 0)], None), (0, 1, [("plus", 5)], 0)])
        self.same(run(thing, ()), (3,))
        self.same(run(thing, (1,)), (6, 3))

    def test_own(self):
        body = body_for(7, [(7, "other", [("own", 3, 20), ("plus", 0)], 7), (7, "end", [("own", 99, 99)], None)])
        own = tuple((sign + 20) % 100 for sign in (3,) + body[1:])
        end = tuple((sign + 99) % 100 for sign in (99,) + body[1:])
        for form in range(5):
            self.same(run(thing_of(form, 9, body), (8,)), own + (8,) + end)
        # The tail belongs to the body.
        tailed = body + (3, 95, 99)
        self.same(run(thing_of(2, 9, tailed), ()), end + (2, 94, 98))
        # Own of its own start writes the thing with its own body.
        made_anew = body_for(4, [(4, "end", [("put", (3, 50)), ("own", 4, 60)], None)])
        self.same(run(thing_of(1, 1, made_anew), ()), thing_of(3, 50, made_anew))

    def test_own_rows(self):
        # A body that is empty has no rule that could write its own.
        self.same(own_row((), 3, 99), (2,))
        self.same(own_row((7,), 3, 99), (2,))
        self.same(own_row((7, 8, 0), 99, 1), (0, 9, 1))

    def test_forms_and_numbers_do_not_matter(self):
        lot = random.Random(9)
        for seed in range(100):
            body = body_for(lot.randint(0, 5), random_rules(seed)) + random_row(lot, 4)
            row = random_row(lot, 9, 5)
            wanted = run(thing_of(0, 0, body), row)
            for form in range(5):
                self.same(run(thing_of(form, lot.randint(0, 99), body), list(row)), wanted)

    def test_what_a_slow_reader_does(self):
        lot = random.Random(10)
        for _ in range(1500):
            # Few signs, so that many of these bodies have rules which are taken.
            thing = (lot.choice((0, 0, 4)), lot.randint(0, 99)) + random_row(lot, 40, 2)
            row = random_row(lot, 9, 4)
            self.same(run(thing, row), Slow(thing).run(row))

    def test_just_as_long_as_let(self):
        self.same(run(HUNDREDS, (1,) * 201), (4,) * 19899 + (5,) * 20)
        exact = made([(0, "other", [("put", (4,) * 99)], 0), (0, "end", [("put", (5,) * 2)], None)])
        self.assertEqual(len(run(exact, (0,) * 202)), 20000)
        with_sign = made([(0, "other", [("plus", 1)], 0)])
        self.same(run(with_sign, (3,) * 20000), (4,) * 20000)

    def test_one_sign_too_long(self):
        more = made([(0, "other", [("put", (4,) * 99)], 0), (0, "end", [("put", (5,) * 3)], None)])
        self.wrong(TooLong, None, run, more, (0,) * 202)
        self.wrong(TooLong, None, run, HUNDREDS, (1,) * 203)
        doubled = made([(0, "other", [("plus", 1)], 0), (0, 1, [("plus", 1)] * 2, 0)])
        self.wrong(TooLong, None, run, doubled, (3,) * 19999 + (1,))
        self.same(len(run(doubled, (3,) * 19998 + (1,))), 20000)

    def test_at_the_end_a_plus_does_not_count(self):
        thing = made([(0, "other", [("plus", 1)], 0), (0, "end", [("plus", 1)] * 99, None)])
        self.same(len(run(thing, (3,) * 20000)), 20000)

    def test_one_rule_that_writes_far_too_much(self):
        own = sized([(0, "other", [("own", 1, 1)] * 99, 0)], 19000)
        self.wrong(TooLong, None, run, own, (0,))
        self.same(run(own, ()), ())
        twice = sized([(0, 1, [("own", 1, 1)] * 2, 0)], 10000)
        self.same(len(run(twice, (1,))), 20000)
        self.wrong(TooLong, None, run, sized([(0, 1, [("own", 1, 1)] * 2, 0)], 10001), (1,))

    def test_what_comes_behind_a_stop_is_not_too_long(self):
        thing = made([(0, 1, writer(9000), 0), (0, 2, (), 9), (0, "end", writer(9000), None)])
        self.same(len(run(thing, (1, 1, 2, 1, 1))), 18000)
        self.same(len(run(thing, (1, 1, 3, 1, 1))), 18000)
        self.wrong(TooLong, None, run, thing, (1, 1))

    def test_wrong_arguments(self):
        for value in no_things():
            self.wrong(BadThing, value, run, value, (1, 2))
        for value in no_rows():
            self.wrong(BadRow, value, run, COPIER, value)
        self.wrong(BadThing, (5, 5), run, (5, 5), None)
        self.wrong(BadThing, None, run, None, [100])
        self.wrong(BadRow, (True,), run, HUNDREDS, (True,))


def told(machine):
    return (machine.thing, machine.row, machine.at, machine.stand, machine.over, machine.steps, machine.written)


class TestMachine(Case):
    def stands(self, machine, at, stand, over, steps, written):
        self.same(told(machine)[2:], (at, stand, over, steps, written))

    def test_new(self):
        machine = Machine(list(COPIER), [1, 2])
        self.same(told(machine), (COPIER, (1, 2), 0, 0, False, 0, ()))
        self.same(Machine((2, 1, 30), ()).stand, 90)
        self.same(Machine((2, 1), ()).stand, 0)

    def test_step_by_step(self):
        thing = made([(0, 5, [("put", (7, 8))], 4), (4, "other", [("plus", 1)], 2), (2, "end", [("put", (9,))], None)])
        machine = Machine(thing, (5, 6))
        self.assertIsNone(machine.step())
        self.stands(machine, 1, 4, False, 1, (7, 8))
        machine.step()
        self.stands(machine, 2, 2, False, 2, (7, 8, 7))
        machine.step()
        self.stands(machine, 2, 2, True, 3, (7, 8, 7, 9))
        self.wrong(Finished, None, machine.step)
        self.stands(machine, 2, 2, True, 3, (7, 8, 7, 9))

    def test_a_step_that_stops(self):
        thing = made([(0, 5, [("put", (7,))], 4), (4, "end", [("put", (9,))], None)])
        machine = Machine(thing, (5, 5, 5))
        machine.step()
        machine.step()
        self.stands(machine, 1, 4, True, 2, (7,))
        self.wrong(Finished, None, machine.step)
        machine.back()
        self.stands(machine, 1, 4, False, 1, (7,))

    def test_the_end_without_a_rule(self):
        machine = Machine((0, 0), ())
        machine.step()
        self.stands(machine, 0, 0, True, 1, ())
        self.wrong(Finished, None, machine.step)

    def test_back(self):
        machine = Machine(COPIER, (1, 5, 9, 3))
        self.wrong(NothingDone, None, machine.back)
        ahead = [told(machine)]
        while not machine.over:
            machine.step()
            ahead.append(told(machine))
        self.assertEqual(len(ahead), 5)
        while machine.steps:
            self.same(told(machine), ahead.pop())
            self.assertIsNone(machine.back())
        self.same(told(machine), ahead.pop())
        self.wrong(NothingDone, None, machine.back)
        self.same(machine.go(), (2, 7, 1))

    def test_go(self):
        machine = Machine(COPIER, (1, 5, 3))
        self.same(machine.go(), (2, 7, 4, 50))
        self.stands(machine, 3, 0, True, 4, (2, 7, 4, 50))
        self.same(machine.go(), (2, 7, 4, 50))
        self.stands(machine, 3, 0, True, 4, (2, 7, 4, 50))
        self.wrong(Finished, None, machine.step)
        machine.back()
        self.stands(machine, 3, 0, False, 3, (2, 7, 4))
        machine.back()
        self.stands(machine, 2, 0, False, 2, (2, 7))
        machine.step()
        self.same(machine.go(), (2, 7, 4, 50))

    def test_go_on_from_the_middle(self):
        machine = Machine(COPIER, (1, 5, 3))
        machine.step()
        self.same(machine.go(), (2, 7, 4, 50))
        for _ in range(4):
            machine.back()
        self.stands(machine, 0, 0, False, 0, ())

    def test_go_is_run(self):
        lot = random.Random(11)
        for _ in range(500):
            thing = (0, lot.randint(0, 99)) + random_row(lot, 40, 2)
            row = random_row(lot, 9, 4)
            machine = Machine(thing, row)
            self.same(machine.go(), run(thing, row))
            self.same(machine.written, run(thing, row))
            self.assertLessEqual(machine.steps, len(row) + 1)

    def test_a_step_that_is_too_long(self):
        thing = made([(0, 1, writer(9000), 5), (5, 2, writer(2000), 6), (5, "other", writer(9500), 5),
                      (6, "other", [("plus", 0)], 7)])
        machine = Machine(thing, (1, 3, 2, 1))
        machine.step()
        machine.step()
        ahead = told(machine)
        for _ in range(3):
            self.wrong(TooLong, None, machine.step)
            self.same(told(machine), ahead)
        machine.back()
        self.stands(machine, 1, 5, False, 1, (8,) * 9000)

    def test_an_end_that_is_too_long(self):
        thing = made([(0, "other", writer(9000), 0), (0, "end", writer(2001), None)])
        machine = Machine(thing, (1, 1))
        machine.step()
        machine.step()
        ahead = told(machine)
        self.wrong(TooLong, None, machine.step)
        self.same(told(machine), ahead)
        self.same((machine.over, machine.steps), (False, 2))
        machine = Machine(made([(0, "other", writer(9000), 0), (0, "end", writer(2000), None)]), (1, 1))
        self.same(len(machine.go()), 20000)

    def test_a_go_that_is_too_long(self):
        thing = made([(0, "other", writer(9000), 1), (1, "other", [("plus", 0)], 2), (2, "other", writer(9500), 0),
                      (0, "end", writer(1500), None)])
        machine = Machine(thing, (1, 2, 3))
        ahead = told(machine)
        self.wrong(TooLong, None, machine.go)
        self.same(told(machine), ahead)
        self.wrong(NothingDone, None, machine.back)
        machine.step()
        machine.step()
        ahead = told(machine)
        self.wrong(TooLong, None, machine.go)
        self.same(told(machine), ahead)
        machine.step()
        self.wrong(TooLong, None, machine.go)
        self.same((machine.at, machine.stand, machine.over, machine.steps), (3, 0, False, 3))
        machine.back()
        self.same(told(machine), ahead)

    def test_long_rows(self):
        machine = Machine(made([(0, "other", [("plus", 1)], 0)]), (3,) * 20000)
        self.same(machine.go(), (4,) * 20000)
        self.same((machine.at, machine.steps), (20000, 20001))
        for _ in range(20001):
            machine.back()
        self.stands(machine, 0, 0, False, 0, ())

    def test_what_is_handed_in_is_copied(self):
        thing, row = list(COPIER), [1, 5]
        machine = Machine(thing, row)
        thing[2:] = []
        row.append(9)
        self.same(told(machine)[:2], (COPIER, (1, 5)))
        machine.go()
        self.same(machine.written, (2, 7, 50))

    def test_wrong_arguments(self):
        for value in no_things():
            self.wrong(BadThing, value, Machine, value, (1, 2))
        for value in no_rows():
            self.wrong(BadRow, value, Machine, COPIER, value)
        self.wrong(BadThing, (), Machine, (), (100,))


if __name__ == "__main__":
    unittest.main()
