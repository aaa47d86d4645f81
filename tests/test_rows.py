"""Points [4] and [5], and of point [2] what they hang on."""

import random
import unittest

from tests.cases import NO_FORMS, NO_SIGNS, SCRAPS, Case, no_rows, no_things, random_row
from trulymade.errors import BadForm, BadRow, BadSign, BadThing
from trulymade.rows import (body_of, form_of, is_row, is_thing, number_of, row_order, shifted,
                            thing_of)

# Things with their form, number and body.
THINGS = [((0, 0), 0, 0, ()), ((0, 99), 0, 99, ()), ((4, 4), 4, 4, ()),
          ((0, 7, 0, 95), 0, 7, (0, 95)), ((1, 7, 20, 15), 1, 7, (0, 95)),
          ((2, 7, 40, 35, 39), 2, 7, (0, 95, 99)), ((3, 50, 60, 59, 0), 3, 50, (0, 99, 40)),
          ((4, 99, 80, 79, 0, 99), 4, 99, (0, 99, 20, 19))]


class TestRows(Case):
    def test_lists_and_tuples_of_signs_are_rows(self):
        for row in [(), [], (0,), [99], (0, 99, 50), [5, 5, 5], [3] * 20000]:
            self.assertIs(is_row(row), True)

    def test_nothing_else_is_a_row(self):
        for value in no_rows():
            self.assertIs(is_row(value), False, value)

    def test_wrong_rows_are_told(self):
        for value in no_rows():
            self.wrong(BadRow, value, thing_of, 0, 0, value)

    def test_signs_are_added_modulo_100(self):
        self.same(shifted([0, 50, 99], 1), (1, 51, 0))
        self.same(shifted((0, 50, 99), -1), (99, 49, 98))
        self.same(shifted([], 7), ())

    def test_rows_are_ordered_by_length_first(self):
        rows = [(2,), [], (1, 0), (0, 99), [1, 0, 0], (0, 0, 5), [1], (99,), [0, 98]]
        wanted = [[], [1], (2,), (99,), [0, 98], (0, 99), (1, 0), (0, 0, 5), [1, 0, 0]]
        self.assertEqual(sorted(rows, key=row_order), wanted)
        self.assertEqual(min(rows[:1] + rows[2:], key=row_order), [1])


class TestThings(Case):
    def test_parts_of_things(self):
        for thing, form, number, body in THINGS:
            for row in (thing, list(thing)):
                self.assertIs(is_thing(row), True)
                self.same(form_of(row), form)
                self.same(number_of(row), number)
                self.same(body_of(row), body)
                self.same(row, type(row)(thing))

    def test_thing_of(self):
        for thing, form, number, body in THINGS:
            self.same(thing_of(form, number, body), thing)
            given = list(body)
            self.same(thing_of(form, number, given), thing)
            self.same(given, list(body))

    def test_the_example(self):
        self.same(thing_of(1, 7, (0, 95)), (1, 7, 20, 15))

    def test_first_signs_four_and_five(self):
        for number in (0, 4, 5, 99):
            self.assertIs(is_thing((4, number)), True)
            self.assertIs(is_thing([5, number]), False)
            self.assertIs(is_thing((4, number, 0)), True)
            self.assertIs(is_thing([5, number, 0]), False)

    def test_scraps_and_no_rows_are_no_things(self):
        for value in no_things():
            before = repr(value)
            self.assertIs(is_thing(value), False, value)
            self.assertEqual(repr(value), before)
            self.wrong(BadThing, value, form_of, value)
            self.wrong(BadThing, value, number_of, value)
            self.wrong(BadThing, value, body_of, value)

    def test_scraps_are_rows(self):
        for row in SCRAPS:
            self.assertIs(is_row(row), True)

    def test_a_row_with_a_wrong_form_at_its_head(self):
        for form in NO_FORMS:
            self.wrong(BadThing, [form, 1, 2], form_of, [form, 1, 2])

    def test_a_wrong_number_or_body_spoils_a_thing(self):
        for wrong in NO_SIGNS:
            for row in ([1, wrong], (1, wrong, 2), [1, 2, wrong], (1, 2, 3, wrong, 4)):
                self.assertIs(is_thing(row), False)
                self.wrong(BadThing, row, number_of, row)

    def test_thing_of_wrong_form(self):
        for form in NO_FORMS:
            self.wrong(BadForm, form, thing_of, form, 0, ())

    def test_thing_of_wrong_number(self):
        for number in NO_SIGNS:
            self.wrong(BadSign, number, thing_of, 4, number, [1])

    def test_thing_of_names_the_first_wrong_argument(self):
        self.wrong(BadForm, 5, thing_of, 5, 100, "body")
        self.wrong(BadForm, True, thing_of, True, 100, [])
        self.wrong(BadForm, None, thing_of, None, 0, [100])
        self.wrong(BadSign, True, thing_of, 0, True, [100])
        self.wrong(BadSign, -1, thing_of, 0, -1, None)
        self.wrong(BadRow, [0, [100]], thing_of, 0, 0, [0, [100]])

    def test_body_of_and_thing_of_are_contraries(self):
        every = tuple(range(100))
        lot = random.Random(4)
        for form in range(5):
            for body in [(), (0,), (99,), every] + [random_row(lot, 30) for _ in range(20)]:
                number = lot.randint(0, 99)
                thing = thing_of(form, number, body)
                self.same((form_of(thing), number_of(thing), body_of(thing)), (form, number, body))
                self.assertEqual(thing[2:], tuple((sign + 20 * form) % 100 for sign in body))
                back = (form, number) + body
                self.same(thing_of(form, number, body_of(back)), back)

    def test_long_bodies(self):
        body = tuple(at * 7 % 100 for at in range(19998))
        for form in range(5):
            thing = thing_of(form, 1, list(body))
            self.assertEqual(len(thing), 20000)
            self.assertIs(is_thing(thing), True)
            self.assertEqual(body_of(thing), body)
            self.assertIs(is_thing(thing[:-1] + (100,)), False)


if __name__ == "__main__":
    unittest.main()
