"""Points [6] and [7]."""

import random
import unittest

from tests.cases import NO_LISTS, NO_SIGNS, Case, no_rows, random_row, random_rules
from trulymade.errors import BadRow, BadRule, BadSign
from trulymade.rules import Rules, body_for, is_item, is_rule

# Whole rules: as they are written in a body, and as they are told.
WRITTEN = [
    ((7, 0, 5, 0, 8), (7, 5, (), 8)),
    ((0, 0, 0, 0, 0), (0, 0, (), 0)),
    ((99, 0, 99, 0, 99), (99, 99, (), 99)),
    ((7, 0, 1, 0, 8), (7, 1, (), 8)),
    ((7, 0, 2, 0, 8), (7, 2, (), 8)),
    ((7, 1, 0, 8), (7, "other", (), 8)),
    ((7, 2, 0), (7, "end", (), None)),
    ((7, 1, 1, 0, 0, 8), (7, "other", (("put", ()),), 8)),
    ((7, 1, 1, 0, 3, 0, 1, 99, 8), (7, "other", (("put", (0, 1, 99)),), 8)),
    ((7, 1, 1, 1, 50, 8), (7, "other", (("plus", 50),), 8)),
    ((7, 1, 1, 2, 3, 20, 8), (7, "other", (("own", 3, 20),), 8)),
    ((7, 2, 1, 1, 0), (7, "end", (("plus", 0),), None)),
    ((7, 2, 2, 2, 0, 99, 0, 1, 2), (7, "end", (("own", 0, 99), ("put", (2,))), None)),
    ((7, 0, 3, 3, 1, 0, 2, 1, 2, 0, 1, 9, 8),
     (7, 3, (("plus", 0), ("own", 1, 2), ("put", (9,))), 8)),
]

EXAMPLE = (0, 0, 0, 1, 2, 0, 1, 98, 2, 3, 20, 1, 1, 1, 1, 1, 50, 1)
EXAMPLE_RULES = ((0, 1, (("put", (98,)), ("own", 3, 20)), 1), (1, "other", (("plus", 50),), 1))


class TestReading(Case):
    def read(self, body, start, rules, tail):
        for row in (tuple(body), list(body)):
            told = Rules(row)
            self.same(told.body, tuple(body))
            self.same(told.start, start)
            self.same(told.rules, rules)
            self.same(told.tail, tail)
            self.same(row, type(row)(body))

    def test_no_rules(self):
        self.read((), 0, (), ())
        self.read((0,), 0, (), ())
        self.read((42,), 42, (), ())
        self.read((99,), 99, (), ())

    def test_the_example(self):
        self.read(EXAMPLE, 0, EXAMPLE_RULES, ())

    def test_each_word_and_each_item(self):
        for signs, rule in WRITTEN:
            self.read((6,) + signs, 6, (rule,), ())

    def test_rules_follow_one_another(self):
        body, rules = (1,), ()
        for signs, rule in WRITTEN:
            body, rules = body + signs, rules + (rule,)
        self.read(body, 1, rules, ())

    def test_a_rule_that_is_cut_off_at_any_place_is_no_rule(self):
        whole, rule = WRITTEN[0]
        for signs, _ in WRITTEN:
            for cut in range(len(signs)):
                self.read((6,) + signs[:cut], 6, (), signs[:cut])
                self.read((6,) + whole + signs[:cut], 6, (rule,), signs[:cut])

    def test_no_next_stand_behind_an_end(self):
        self.read((0, 1, 2, 0, 3), 0, ((1, "end", (), None),), (3,))
        self.read((0, 1, 2, 0, 3, 2, 0), 0, ((1, "end", (), None), (3, "end", (), None)), ())

    def test_other_words_end_the_reading(self):
        whole, rule = WRITTEN[0]
        for word in (3, 4, 50, 99):
            tail = (7, word, 0, 8) + whole
            self.read((6,) + tail, 6, (), tail)
            self.read((6,) + whole + tail, 6, (rule,), tail)
            self.read((6, 7, word), 6, (), (7, word))

    def test_other_items_end_the_reading(self):
        whole, rule = WRITTEN[0]
        for kind in (3, 4, 99):
            for before in ((), (1, 5)):
                count = 1 + len(before) // 2
                tail = (7, 1, count) + before + (kind, 1, 1, 1, 1) + whole
                self.read((6,) + tail, 6, (), tail)
                self.read((6,) + whole + tail, 6, (rule,), tail)

    def test_a_rule_behind_a_tail_is_no_rule(self):
        whole, rule = WRITTEN[5]
        self.read((6,) + whole + (9, 9) + whole, 6, (rule,), (9, 9) + whole)
        self.read((6, 0, 3) + whole, 6, (), (0, 3) + whole)

    def test_many_items(self):
        rule = (7, "other", (("plus", 3),) * 99, 8)
        signs = (7, 1, 99) + (1, 3) * 99 + (8,)
        self.read((0,) + signs, 0, (rule,), ())
        self.read((0,) + signs[:-1], 0, (), signs[:-1])
        short = (7, 1, 99) + (1, 3) * 98 + (8,)
        self.read((0,) + short, 0, (), short)

    def test_long_puts(self):
        signs = (7, 2, 1, 0, 99) + (5,) * 99
        self.read((0,) + signs, 0, ((7, "end", (("put", (5,) * 99),), None),), ())
        self.read((0,) + signs[:-1], 0, (), signs[:-1])

    def test_what_is_no_row(self):
        for value in no_rows():
            self.wrong(BadRow, value, Rules, value)

    def test_every_row_is_a_start_rules_and_a_tail(self):
        lot = random.Random(6)
        for _ in range(3000):
            body = random_row(lot, 25, lot.choice((2, 3, 99)))
            told = Rules(body)
            self.same(body_for(told.start, told.rules) + told.tail, body or (0,))
            self.same(Rules((0,) + told.tail).rules, ())

    def test_the_longest_bodies(self):
        self.read((1,) + (2, 2, 0) * 6666, 1, ((2, "end", (), None),) * 6666, ())
        self.read((0,) * 20000, 0, ((0, 0, (), 0),) * 3999, (0,) * 4)
        self.read((3,) * 20000, 3, (), (3,) * 19999)

    def test_the_row_is_copied(self):
        row = list(EXAMPLE)
        told = Rules(row)
        row[0] = 5
        row.append(3)
        self.same((told.body, told.start, told.rules, told.tail), (EXAMPLE, 0, EXAMPLE_RULES, ()))


class TestEquality(Case):
    def test_equal_bodies(self):
        self.assertIs(Rules((1, 2)) == Rules([1, 2]), True)
        self.assertIs(Rules((1, 2)) != Rules([1, 2]), False)
        self.assertIs(Rules(()) == Rules([]), True)
        self.assertIs(Rules(EXAMPLE) == Rules(EXAMPLE), True)

    def test_other_bodies(self):
        self.assertIs(Rules((1, 2)) == Rules((1, 3)), False)
        self.assertIs(Rules((1, 2)) != Rules((1, 3)), True)
        self.assertIs(Rules(()) == Rules((0,)), False)
        self.assertIs(Rules(EXAMPLE) == Rules(EXAMPLE + (9,)), False)
        self.assertIs(Rules((0, 1, 2, 0)) == Rules((1, 1, 2, 0)), False)

    def test_nothing_else_is_equal(self):
        for other in NO_LISTS[:-1] + [(1, 2), [1, 2], (), ((1, 2),), object()]:
            self.assertIs(Rules((1, 2)) == other, False)
            self.assertIs(other == Rules((1, 2)), False)
            self.assertIs(Rules((1, 2)) != other, True)
        self.assertIs(Rules(()) == (), False)


class TestBodyFor(Case):
    def test_no_rules(self):
        self.same(body_for(0, ()), (0,))
        self.same(body_for(99, []), (99,))

    def test_each_word_and_each_item(self):
        for signs, rule in WRITTEN:
            self.same(body_for(6, [rule]), (6,) + signs)
            self.same(body_for(6, (rule, rule)), (6,) + signs + signs)

    def test_the_example(self):
        self.same(body_for(0, EXAMPLE_RULES), EXAMPLE)

    def test_items_and_rows_as_lists(self):
        rules = [(0, 1, [("put", [98]), ("own", 3, 20)], 1), (1, "other", [("plus", 50)], 1)]
        before = repr(rules)
        self.same(body_for(0, rules), EXAMPLE)
        self.assertEqual(repr(rules), before)
        self.same(body_for(0, [(0, 1, (("put", [98]), ("own", 3, 20)), 1)]), EXAMPLE[:12])

    def test_the_rules_come_back(self):
        for seed in range(500):
            rules = random_rules(seed)
            told = Rules(body_for(seed % 100, rules))
            self.same((told.start, told.rules, told.tail), (seed % 100, rules, ()))
            self.same(told.body, body_for(seed % 100, list(rules)))

    def test_bounds_that_hold(self):
        rules = ((0, "end", (("put", (9,) * 99),) * 99, None), (99, 99, [("plus", 99)] * 99, 99))
        told = Rules(body_for(0, rules))
        self.same(told.rules, (rules[0], (99, 99, (("plus", 99),) * 99, 99)))

    def test_wrong_start(self):
        for start in NO_SIGNS:
            self.wrong(BadSign, start, body_for, start, ())
            self.wrong(BadSign, start, body_for, start, None)
            self.wrong(BadSign, start, body_for, start, [None])

    def test_no_row_of_rules(self):
        for rules in NO_LISTS:
            self.wrong(BadRule, -1, body_for, 0, rules)

    def no_rule(self, rule):
        good = WRITTEN[0][1]
        self.assertIs(is_rule(rule), False, rule)
        self.wrong(BadRule, 0, body_for, 0, [rule])
        self.wrong(BadRule, 0, body_for, 0, (rule, good, rule))
        self.wrong(BadRule, 2, body_for, 0, (good, good, rule))
        self.wrong(BadRule, 1, body_for, 0, [good, rule, None, rule])

    def test_no_tuple_of_four(self):
        for rule in NO_LISTS + [[7, 5, (), 8], (), (7,), (7, 5, ()), (7, "end", ()),
                                (7, 5, (), 8, 8), (7, "end", (), None, None), ((7, 5, (), 8),)]:
            self.no_rule(rule)

    def test_wrong_stand(self):
        for stand in NO_SIGNS:
            self.no_rule((stand, 5, (), 8))
            self.no_rule((stand, "other", (), 8))
            self.no_rule((stand, "end", (), None))

    def test_wrong_word(self):
        for word in NO_SIGNS + ["En", "end ", "ends", "others", "Other", ("end",), ["other"]]:
            self.no_rule((7, word, (), 8))
            self.no_rule((7, word, (), None))

    def test_wrong_next(self):
        for after in NO_SIGNS:
            self.no_rule((7, 5, (), after))
            self.no_rule((7, "other", (), after))
            if after is not None:
                self.no_rule((7, "end", (), after))
        for after in (0, 8, 99):
            self.no_rule((7, "end", (), after))

    def test_wrong_items(self):
        for items in NO_LISTS + [("plus", 5), ("put", ()), [[]], [()], [None]]:
            self.no_rule((7, 5, items, 8))
            self.no_rule((7, "end", items, None))

    def test_too_many_items(self):
        for many in (100, 101, 500):
            self.no_rule((7, 5, (("plus", 5),) * many, 8))
            self.no_rule((7, "end", [("put", ())] * many, None))

    def no_item(self, item):
        self.assertIs(is_item(item), False, item)
        good = ("plus", 1)
        for items in ([item], (item,), [item, good], (good, item), [good, item, good]):
            self.no_rule((7, "other", items, 8))
            self.no_rule((7, "end", items, None))

    def test_what_is_no_item(self):
        for item in NO_LISTS + [["plus", 5], ["put", ()], ["own", 1, 2], (), ("plus",), ("put",),
                                ("own",), ("own", 1), ("plus", 1, 2), ("put", (), ()),
                                ("own", 1, 2, 3), ("Put", ()), ("pluss", 1), ("", 1), (1, 1),
                                (None, 1), ("end", 1), ("nothing",), ("plus", (1,)), ("put", 1),
                                ("put", "ab"), ("own", (1, 2)), (("plus",), 1), ("put", 1, 2),
                                ("own", 1, ()), ("plus", "1"), (0, ()), (2, 1, 2)]:
            self.no_item(item)

    def test_wrong_numbers_of_items(self):
        for number in NO_SIGNS:
            self.no_item(("plus", number))
            self.no_item(("own", number, 5))
            self.no_item(("own", 5, number))

    def test_wrong_puts(self):
        for row in no_rows()[::7] + NO_LISTS:
            self.no_item(("put", row))
        for many in (100, 101, 2000):
            self.no_item(("put", (5,) * many))
            self.no_item(("put", [5] * many))

    def test_is_rule(self):
        for _, rule in WRITTEN:
            self.assertIs(is_rule(rule), True)


if __name__ == "__main__":
    unittest.main()
