"""Point [13]."""

import random
import unittest

from tests.cases import NO_FORMS, Case, made, no_things, random_row, sized
from tests.slow import EVERY, Slow, first_row
from tests.slow import leads as slow_leads
from trulymade.errors import BadForm, BadThing, TooLong, TooMany
from trulymade.programs import is_small
from trulymade.right import first_wrong, is_right, leads
from trulymade.rows import thing_of

COPY = made([(0, "other", [("plus", 0)], 0)])
NOTHING = (0, 0)


def put(*signs):
    return [("put", signs)]


def leading(source, target, number=9):
    """The rules of a plain right maker."""
    by = (target - source) * 20 % 100
    return [(0, source, put(target), 1), (1, "other", put(number), 2), (2, "other", [("plus", by)], 2)]


class TestLeads(Case):
    def test_right_ones(self):
        for source in range(5):
            for target in range(5):
                maker = made(leading(source, target))
                for body in ((), (0,), (95, 5, 0), (0, 0, 1, 0, 1)):
                    thing = thing_of(source, 3, body)
                    self.assertIs(leads(maker, target, thing), True)
                    self.assertIs(leads(list(maker), target, list(thing)), True)
                    self.assertIs(leads(maker, (target + 1) % 5, thing), False)

    def test_the_number_may_be_any(self):
        self.assertIs(leads(COPY, 2, (2, 50, 7)), True)
        self.assertIs(leads(made(leading(2, 2, 99)), 2, (2, 50, 7)), True)

    def test_wrong_outcomes(self):
        for written in ((), (1,), (1, 2), (1, 2, 25), (1, 2, 26, 26), (0, 2, 26), (0, 2, 6), (2, 2, 26), (5, 2, 26),
                        (6,), (25, 2, 26)):
            maker = made([(0, "end", put(*written), None), (0, "other", (), 0)])
            self.assertIs(leads(maker, 1, (0, 0, 6)), False)
        maker = made([(0, "end", put(1, 2, 26), None), (0, "other", (), 0)])
        self.assertIs(leads(maker, 1, (0, 0, 6)), True)

    def test_too_long(self):
        maker = sized([(0, 1, [("own", 1, 1)] * 2, 1), (1, "other", put(1, 2), 2)], 10000)
        self.wrong(TooLong, None, leads, maker, 1, (1, 5))
        self.assertIs(leads(maker, 1, (0, 5)), False)

    def test_wrong_arguments(self):
        for value in no_things():
            self.wrong(BadThing, value, leads, value, 0, COPY)
            self.wrong(BadThing, value, leads, COPY, 0, value)
        for value in NO_FORMS:
            self.wrong(BadForm, value, leads, COPY, value, COPY)
        self.wrong(BadThing, None, leads, None, 9, (5,))
        self.wrong(BadForm, 9, leads, COPY, 9, (5,))
        self.wrong(BadThing, (5,), leads, COPY, 4, (5,))


class TestRight(Case):
    def wrong_at(self, rules, source, target, row):
        """The least wrong thing of a maker with these rules is this row; None if it is right."""
        maker = made(rules, 0, 3, 50)
        self.same(first_wrong(maker, source, target), row)
        self.same(first_wrong(list(maker), source, target), row)
        self.assertIs(is_right(source, target, maker), row is None)
        self.assertIs(is_right(source, target, list(maker)), row is None)
        if row is not None:
            self.assertIs(leads(maker, target, row), False)

    def test_right_makers(self):
        for source in range(5):
            for target in range(5):
                rules = leading(source, target)
                self.wrong_at(rules, source, target, None)
                self.wrong_at(rules, source, (target + 1) % 5, (source, 0))
                self.wrong_at(rules, (source + 3) % 5, target, ((source + 3) % 5, 0))

    def test_copying(self):
        for form in range(5):
            self.wrong_at([(0, "other", [("plus", 0)], 0)], form, form, None)
            self.wrong_at([(0, "other", [("plus", 0)], 0)], form, (form + 2) % 5, (form, 0))
            self.wrong_at([], form, form, (form, 0))
        # All signs are moved by 20, and the number with them: it may be any.
        for form in range(4):
            self.wrong_at([(0, "other", [("plus", 20)], 0)], form, form + 1, (form, 0))

    def test_numbers_that_hang_on_the_thing(self):
        rules = [(0, 1, put(3), 1), (1, 5, put(9), 2), (1, 6, put(0), 3), (1, "other", [("plus", 44)], 2),
                 (2, "other", [("plus", 40)], 2), (3, "other", [("plus", 40)], 2)]
        self.wrong_at(rules, 1, 3, None)
        self.wrong_at(rules[:1] + [(1, 7, put(9, 9), 2)] + rules[1:], 1, 3, (1, 7))
        self.wrong_at(rules[:1] + [(1, 7, (), 2)] + rules[1:], 1, 3, (1, 7))
        self.wrong_at(rules[:2] + [(1, 6, put(0), 4), (4, "other", [("plus", 0)], 4)] + rules[3:], 1, 3, (1, 6, 0))

    def test_the_number_may_come_later(self):
        late = [(0, 2, put(2), 1), (1, "other", (), 2), (2, "end", put(50), None), (2, 7, put(1, 7), 3),
                (2, "other", put(2) + [("plus", 0)], 3), (3, "other", [("plus", 0)], 3)]
        self.wrong_at(late, 2, 2, None)
        self.wrong_at([rule for rule in late if rule[1] != "end"], 2, 2, (2, 0))
        self.wrong_at(late[:3] + [(2, 7, put(7), 3)] + late[4:], 2, 2, (2, 0, 7))
        self.wrong_at(late[:3] + [(2, 7, put(1, 8), 3)] + late[4:], 2, 2, (2, 0, 7))
        self.wrong_at(late[:3] + [(2, 7, put(1, 7, 7), 3)] + late[4:], 2, 2, (2, 0, 7))

    def test_the_form_may_come_later(self):
        late = [(0, 2, (), 1), (1, "other", (), 2), (2, "end", put(0, 50), None), (2, 45, (), 4),
                (4, "end", put(0, 9, 5), None), (4, 46, put(0, 8, 5, 6), 3),
                (2, "other", put(0, 9) + [("plus", 60)], 3), (4, "other", put(0, 9, 5) + [("plus", 60)], 3), (3, "other", [("plus", 60)], 3)]
        self.wrong_at(late, 2, 0, None)
        self.wrong_at(late[:4] + [(4, "end", put(1, 9, 5), None)] + late[5:], 2, 0, (2, 0, 45))
        self.wrong_at(late[:5] + [(4, 46, put(0, 8, 5, 7), 3)] + late[6:], 2, 0, (2, 0, 45, 46))
        self.wrong_at(late[:5] + [(4, 46, put(1, 8, 5, 6), 3)] + late[6:], 2, 0, (2, 0, 45, 46))

    def test_one_stand_with_more_and_with_less_written(self):
        # Stand 5 is reached with nothing written and with the form written.
        rules = [(0, 1, (), 1), (1, 3, (), 5), (1, "other", put(1), 6), (5, "end", put(1, 7), None),
                 (6, "end", put(7), None)]
        self.wrong_at(rules, 1, 1, (1, 0, 0))
        rules += [(6, 21, (), 5), (6, "other", put(7) + [("plus", 0)], 9), (9, "other", [("plus", 0)], 9)]
        # Behind (1, 0, 21) the end writes 1, 7: not 7, 21.
        self.wrong_at(rules, 1, 1, (1, 0, 21))
        rules = [(0, 21, (), 1), (0, 1, (), 1), (1, 3, (), 5), (1, "other", put(1), 6), (5, "end", put(1, 21), None),
                 (6, "end", put(7), None), (6, 21, (), 7), (7, "end", put(7, 21), None)]
        # Behind (1, 0, 21) there may be any number and then 21.
        self.wrong_at(rules, 1, 1, (1, 0, 0))

    def test_too_much_and_too_little(self):
        rules = leading(0, 4)
        for by in (79, 81, 0):
            self.wrong_at(rules[:2] + [(2, "other", [("plus", by)], 2)], 0, 4, (0, 0, 0))
        self.wrong_at(rules[:2] + [(2, 8, put(89), 2)] + rules[2:], 0, 4, (0, 0, 8))
        self.wrong_at(rules[:2] + [(2, 8, put(88, 1), 2)] + rules[2:], 0, 4, (0, 0, 8))
        self.wrong_at(rules[:2] + [(2, 8, (), 2)] + rules[2:], 0, 4, (0, 0, 8))
        self.wrong_at(rules[:2] + [(2, 8, put(88), 2)] + rules[2:], 0, 4, None)
        self.wrong_at(rules[:2] + [(2, "other", put(80), 2)], 0, 4, (0, 0, 1))
        self.wrong_at(rules[:2], 0, 4, (0, 0, 0))
        self.wrong_at(rules + [(2, "end", put(1), None)], 0, 4, (0, 0))
        self.wrong_at(rules + [(2, "end", [("plus", 1)], None)], 0, 4, None)
        self.wrong_at([(0, 0, put(4, 9, 9), 1)] + rules[1:], 0, 4, (0, 0))
        self.wrong_at([(0, 0, put(4, 9), 1), (1, "other", (), 2)] + rules[2:], 0, 4, None)

    def test_what_is_no_thing_of_the_source_does_not_count(self):
        rules = leading(2, 3) + [(0, "end", put(1), None), (1, "end", put(1, 1, 1), None), (0, 5, put(5), 5),
                                 (0, "other", put(7, 7), 5), (5, "other", put(1, 1), 5)]
        self.wrong_at(rules, 2, 3, None)

    def test_wrong_for_a_long_thing_alone(self):
        rules = [(0, 1, put(1), 1), (1, "other", [("plus", 0)], 2)]
        rules += [(at, 5, put(5), at + 1) for at in range(2, 90)]
        rules += [(at, "other", [("plus", 0)], 2) for at in range(2, 91)]
        self.wrong_at(rules, 1, 1, None)
        self.wrong_at(rules + [(90, 7, put(5), 2)], 1, 1, (1, 0) + (5,) * 88 + (7,))
        self.wrong_at([(1, 60, put(1), 60)] + rules + [(90, 7, put(5), 2)], 1, 1, (1, 60) + (5,) * 30 + (7,))

    def test_holding_back(self):
        rules = [(0, 0, put(0, 1), 1), (1, "other", (), 2), (2, 1, (), 3), (2, 2, (), 4)]
        rules += [(2, "other", [("plus", 0)], 2)]
        for stand, sign in ((3, 1), (4, 2)):
            rules += [(stand, "end", put(sign), None), (stand, 1, put(sign), 3), (stand, 2, put(sign), 4),
                      (stand, "other", put(sign) + [("plus", 0)], 2)]
        self.wrong_at(rules, 0, 0, None)
        self.wrong_at([(4, 1, put(2, 1), 3)] + rules, 0, 0, (0, 0, 2, 1))
        self.wrong_at([(4, 1, put(2), 4)] + rules, 0, 0, (0, 0, 2, 1))
        self.wrong_at([(3, 9, put(1, 8), 2)] + rules, 0, 0, (0, 0, 1, 9))
        self.wrong_at([(3, 9, put(2, 9), 2)] + rules, 0, 0, (0, 0, 1, 9))
        self.wrong_at([(3, 9, put(1, 9), 2)] + rules, 0, 0, None)

    def test_own(self):
        own = [(0, 1, [("own", 1, 0)], 0)]
        self.wrong_at(own, 1, 1, (1, 0))
        # It writes the one thing that has its own body, whatever it reads.
        maker = made([(0, "other", (), 0), (0, "end", put(2, 5) + [("own", 0, 40)], None)])
        self.assertIs(leads(maker, 2, (0, 0) + maker[2:]), True)
        self.same(first_wrong(maker, 0, 2), (0, 0))

    def test_random_makers(self):
        lot = random.Random(14)
        found = 0
        for _ in range(60):
            source, target = lot.randint(0, 4), lot.randint(0, 4)
            rules = leading(source, target)
            rules.insert(lot.randint(0, 3), random_rule(lot, source, target))
            rules.insert(lot.randint(0, 3), random_rule(lot, source, target))
            maker = made(rules)
            slow = Slow(maker)

            def fails(row):
                return not slow_leads(slow, target, row)
            row = first_wrong(maker, source, target)
            heads = [(source, number) for number in EVERY if fails((source, number))]
            wanted = heads[0] if heads else first_row(fails, (source, 0), EVERY, 1)
            if wanted is not None:
                found += 1
                self.same(row, wanted)
            if row is not None:
                self.assertTrue(fails(row))
            else:
                self.assertIsNone(first_row(fails, (source, 7), (0, 1, 2, 3), 4))
        self.assertGreater(found, 10)


def random_rule(lot, source, target):
    word = lot.choice((0, 1, source, "other", "end"))
    by = (target - source) * 20 % 100
    item = lot.choice((("put", random_row(lot, 2, 1)), ("plus", by), ("plus", lot.choice((0, 1, 99)))))
    return (lot.randint(0, 3), word, lot.choice(((), (item,), (item,))), None if word == "end" else lot.randint(0, 3))


class TestWrong(Case):
    def test_makers_that_are_not_small(self):
        rules = leading(0, 1)
        for size in (8000, 8001):
            maker = sized(rules, size)
            self.assertIs(is_small(maker), size == 8000)
            self.assertIs(is_right(0, 1, maker), size == 8000)
            self.assertIs(is_right(1, 1, maker), False)
        self.same(first_wrong(sized(rules, 8000), 0, 1), None)
        self.wrong(TooMany, None, first_wrong, sized(rules, 8001), 0, 1)
        never = [(50, 1, [("own", 1, 1)] * 4, 0)]
        self.assertIs(is_right(0, 1, sized(rules + never, 5000)), True)
        self.assertIs(is_right(0, 1, sized(rules + never, 5001)), False)
        self.wrong(TooMany, None, first_wrong, sized(rules + never, 5001), 0, 1)
        self.assertIs(is_right(0, 1, made(rules + [(50, 1, (), 0)] * 197)), True)
        self.assertIs(is_right(0, 1, made(rules + [(50, 1, (), 0)] * 198)), False)
        self.wrong(TooMany, None, first_wrong, made(rules + [(50, 1, (), 0)] * 198), 0, 1)

    def test_is_right_is_a_judge(self):
        for value in no_things():
            self.assertIs(is_right(0, 0, value), False)
        for value in NO_FORMS:
            self.wrong(BadForm, value, is_right, value, 0, COPY)
            self.wrong(BadForm, value, is_right, 0, value, COPY)
            self.wrong(BadForm, value, is_right, value, 9, None)
            self.wrong(BadForm, value, is_right, 4, value, None)

    def test_first_wrong(self):
        large = sized([], 8001)
        for value in no_things():
            self.wrong(BadThing, value, first_wrong, value, 0, 0)
            self.wrong(BadThing, value, first_wrong, value, 9, 9)
        for value in NO_FORMS:
            self.wrong(BadForm, value, first_wrong, COPY, value, 0)
            self.wrong(BadForm, value, first_wrong, COPY, 0, value)
            self.wrong(BadForm, value, first_wrong, large, value, True)
            self.wrong(BadForm, value, first_wrong, large, 0, value)
        self.wrong(TooMany, None, first_wrong, large, 0, 0)


if __name__ == "__main__":
    unittest.main()
