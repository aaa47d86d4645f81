"""Point [12]."""

import random
import unittest

from tests.cases import NO_FORMS, NO_SIGNS, Case, made, no_things, random_row, sized
from tests.slow import EVERY, Slow, first_row
from trulymade.errors import BadForm, BadSign, BadThing, TooMany
from trulymade.likeness import alike, apart, apart_at, apart_form, twists
from trulymade.programs import is_small
from trulymade.rows import form_of, number_of, row_order, thing_of
from trulymade.rules import body_for

COPY = made([(0, "other", [("plus", 0)], 0)])
NOTHING = (0, 0)


def put(*signs):
    return [("put", signs)]


def counting(many, at_end):
    """Says nothing, but at_end at the end of rows of as many signs as a multiple of many."""
    rules = [(at, "other", (), (at + 1) % many) for at in range(many)]
    return made(rules + [(0, "end", put(*at_end), None)])


def writing(many):
    """The items of a rule that writes so many signs."""
    return put(*(8,) * 99) * (many // 99) + put(*(8,) * (many % 99))


class TestApart(Case):
    def apart(self, one, other, row):
        """The least row is this one, both ways round."""
        for first, second in ((one, other), (other, one), (list(one), list(other))):
            self.same(apart(first, second), row)
            self.assertIs(alike(first, second), row is None)
        if row is not None:
            self.assertNotEqual(Slow(one).run(row), Slow(other).run(row))

    def test_the_same_thing(self):
        for thing in (COPY, NOTHING, (4, 99), counting(7, (1,)), (1, 0, 20, 20, 41, 20)):
            self.apart(thing, thing, None)

    def test_forms_numbers_and_tails(self):
        body = body_for(0, [(0, "other", [("plus", 7)], 0)])
        self.apart(thing_of(0, 0, body), thing_of(4, 99, body), None)
        self.apart(thing_of(0, 0, body), thing_of(3, 5, body + (9, 9, 9)), None)

    def test_the_empty_row(self):
        self.apart(NOTHING, made([(0, "end", put(1), None)]), ())
        self.apart(made([(0, "end", put(1), None)]), made([(0, "end", put(1, 1), None)]), ())
        self.apart(made([(0, "end", put(1), None)]), made([(0, "end", put(2), None)]), ())

    def test_one_sign(self):
        self.apart(COPY, NOTHING, (0,))
        self.apart(COPY, made([(0, 7, put(8), 0), (0, "other", [("plus", 0)], 0)]), (7,))
        self.apart(COPY, made([(0, 7, put(7), 0), (0, "other", [("plus", 0)], 0)]), None)
        self.apart(COPY, made([(0, 7, [("plus", 0)], 0), (0, 3, (), 0), (0, "other", [("plus", 0)], 0)]), (3,))
        self.apart(COPY, made([(0, 99, [("plus", 1)], 0), (0, "other", [("plus", 0)], 0)]), (99,))

    def test_a_plus_that_is_a_put_for_one_sign(self):
        for sign in (0, 1, 5, 98, 99):
            other = made([(0, "other", put(sign), 0)])
            self.apart(COPY, other, (1,) if sign == 0 else (0,))
            shifted = made([(0, "other", [("plus", (sign - 1) % 100)], 0)])
            self.apart(shifted, other, (0,) if sign != (sign - 1) % 100 else None)
        # The first two others are told by name: they agree, the third does not.
        named = [(0, 0, put(5), 0), (0, 1, put(5), 0)]
        self.apart(made(named + [(0, "other", [("plus", 3)], 0)]), made([(0, "other", put(5), 0)]), (3,))

    def test_two_pluses(self):
        one = made([(0, "other", [("plus", 1), ("plus", 0)], 0)])
        self.apart(one, made([(0, "other", [("plus", 0), ("plus", 1)], 0)]), (0,))
        self.apart(one, made([(0, 4, put(5, 4), 0), (0, "other", [("plus", 1), ("plus", 0)], 0)]), None)

    def test_all_signs_by_name(self):
        rules = [(0, sign, put((sign + 30) % 100), 0) for sign in range(100)]
        whole = made([(0, "other", [("plus", 30)], 0)])
        self.apart(made(rules), whole, None)
        self.apart(made(rules[:99]), whole, (99,))
        self.apart(made(rules[:42] + rules[43:]), whole, (42,))
        self.apart(made(rules[1:]), whole, (0,))
        self.apart(made([(0, sign, put(1), 0) for sign in (50, 51)] + rules), whole, (50,))

    def test_a_stop_is_no_stand_that_says_nothing(self):
        waits = made([(0, 1, (), 1), (1, "other", (), 1), (1, "end", put(3), None)])
        stops = made([(0, 1, (), 1), (1, "end", put(3), None)])
        self.apart(waits, stops, (1, 0))
        self.apart(made([(0, "other", (), 0)]), NOTHING, None)

    def test_longer_rows(self):
        self.apart(counting(2, (1,)), counting(4, (1,)), (0, 0))
        self.apart(counting(6, (1,)), counting(4, (1,)), (0,) * 4)
        self.apart(counting(97, (1,)), counting(97, (1,)), None)
        rules = [(at, 5, [("plus", 0)], at + 1) for at in range(90)] + [(at, 3, (), 0) for at in range(90)]
        longer = rules + [(90, "end", put(1), None)]
        self.apart(made(rules), made(longer), (5,) * 90)
        self.apart(made(rules), made(rules + [(90, 7, put(1), 0)]), (5,) * 90 + (7,))

    def test_pairs_of_stands(self):
        # Two circles of stands: all 9,900 pairs are gone through.
        one = made([(at, "other", put(4), (at + 1) % 100) for at in range(100)])
        self.apart(one, made([(at, "other", put(4), (at + 1) % 99) for at in range(99)]), None)
        last = [(at, "other", put(4), (at + 1) % 99) for at in range(98)] + [(98, "other", put(4, 4), 0)]
        self.apart(one, made(last), (0,) * 99)
        self.apart(counting(99, ()), counting(98, ()), None)

    def test_the_least_of_several_rows(self):
        one = made([(0, 9, (), 1), (0, "other", (), 2), (1, 0, (), 3), (2, 7, (), 3), (2, 8, (), 3)])
        other = made([(0, 9, (), 1), (0, "other", (), 2), (1, 0, (), 3), (2, 7, put(1), 3), (2, 8, put(1), 3)])
        self.apart(one, other, (0, 7))
        other = made([(0, 9, (), 1), (0, "other", (), 2), (1, 0, put(1), 3), (2, 7, (), 3), (2, 8, (), 3)])
        self.apart(one, other, (9, 0))
        self.apart(other, made([(0, "other", (), 2), (2, 7, put(1), 3)]), (0, 7))

    def test_the_one_writes_earlier_than_the_other(self):
        early = made([(0, 1, put(5, 6), 1), (1, 1, put(7), 1)])
        late = made([(0, 1, put(5), 1), (1, 1, put(6), 2), (1, "end", put(6), None), (2, 1, put(7), 2),
                     (2, "end", put(7), None)])
        # Behind (1, 2) the late one has stopped and not written the 6.
        self.apart(early, late, (1, 0))
        late = made([(0, 1, put(5), 1), (1, 1, put(6), 2), (1, "end", put(6), None), (1, "other", put(6), 9),
                     (2, 1, put(7), 2), (2, "end", put(7), None), (2, "other", put(7), 9)])
        self.apart(early, late, None)
        wrong = made([(0, 1, put(5), 1), (1, 1, put(6), 2), (1, "end", put(6), None), (1, "other", put(6), 9),
                      (2, 1, put(7), 2), (2, "end", put(7), None), (2, "other", put(8), 9)])
        self.apart(early, wrong, (1, 1, 0))

    def test_the_one_holds_back_what_was_read(self):
        back = [(0, 1, (), 1), (0, 2, (), 2), (0, "other", [("plus", 0)], 0)]
        for sign in (1, 2):
            back += [(sign, "end", put(sign), None), (sign, 1, put(sign), 1), (sign, 2, put(sign), 2),
                     (sign, "other", put(sign) + [("plus", 0)], 0)]
        self.apart(COPY, made(back), None)
        self.apart(COPY, made(back[:-1] + [(2, "other", put(2) + [("plus", 1)], 0)]), (2, 0))
        self.apart(COPY, made([rule for rule in back if rule[:2] != (1, 2)]), None)
        self.apart(COPY, made([rule for rule in back if rule[:2] != (1, "end")]), (1,))

    def test_much_more_and_much_less(self):
        # One is ahead by more and more, and only the end tells how much.
        more = made([(0, "other", put(4) * 2, 0)])
        self.apart(COPY, more, (0,))
        self.apart(made([(0, "other", put(4), 0)]), more, (0,))
        ends = [(at, "end", put(*(4,) * (50 - at)), None) for at in range(50)]
        fast = made([(at, "other", put(4, 4), at + 1) for at in range(50)] + ends)
        slow = made([(at, "other", put(4), at + 1) for at in range(50)]
                    + [(at, "end", put(*(4,) * 50), None) for at in range(50)] + [(50, "end", put(*(4,) * 50), None)])
        self.apart(fast, slow, (0,) * 51)
        # At 51 signs both have stopped; before, they were one sign apart for each sign.
        self.assertEqual(Slow(fast).run((0,) * 50), Slow(slow).run((0,) * 50))

    def test_own(self):
        rules = [(0, "other", [("own", 3, 20)], 0), (0, "end", [("own", 0, 0)], None)]
        one = made(rules)
        body = body_for(0, rules)
        own = tuple((sign + 20) % 100 for sign in (3,) + body[1:])
        self.apart(one, made([(0, "other", put(*own), 0), (0, "end", put(*body), None)]), None)
        self.apart(one, made([(0, "other", put(*own), 0), (0, "end", put(*body, 1), None)]), ())
        self.apart(one, made([(0, "other", put(*own[:-1], 0), 0), (0, "end", put(*body), None)]), (0,))
        # A tail is part of what own writes, so things with unlike tails are unlike.
        self.apart(one, one + (99,), ())
        # Own puts another sign in the place of the start: the start itself is not written.
        two = body_for(0, rules + [(1, "other", [("own", 3, 20)], 1), (1, "end", [("own", 0, 0)], None)])
        self.apart((0, 0) + two, (0, 0, 1) + two[1:], None)

    def test_a_plus_at_the_end_writes_nothing(self):
        self.apart(made([(0, "end", [("plus", 1), ("plus", 2)], None)]), NOTHING, None)
        self.apart(made([(0, "end", [("plus", 1)] + put(2), None)]), made([(0, "end", put(2), None)]), None)

    def test_long_outputs(self):
        # What is written on the way is soon far more than [10] lets.
        body = body_for(0, [(0, "other", [("own", 8, 0)] * 3, 1), (1, "other", [("own", 8, 0)] * 3, 0)])
        body += (9,) * (6000 - len(body))
        self.apart((0, 0) + body, (0, 0, 1) + body[1:], None)
        rules = [(0, "other", [("own", 8, 0)] * 3, 1), (1, "other", [("own", 8, 0)] * 3, 2),
                 (2, "other", [("own", 8, 0)] * 3, 3), (3, 7, [("own", 9, 0)] * 3, 0)]
        body = body_for(0, rules) + (9,) * (6000 - len(body_for(0, rules)))
        self.apart((0, 0) + body, (0, 0, 1) + body[1:], (0, 0, 0))

    def test_random_things(self):
        lot = random.Random(12)
        told = 0
        for _ in range(150):
            one, other = random_pair(lot)
            slow, slow_other = Slow(one), Slow(other)

            def unlike(row):
                return slow.run(row) != slow_other.run(row)
            found = first_row(unlike, (), EVERY, 1) or first_row(unlike, (), (0, 1, 2, 3, 4), 4)
            row = apart(one, other)
            if found is not None:
                told += 1
                # The slow search knows few signs on longer rows; there the found row may be less.
                self.assertLessEqual(row_order(row), row_order(found))
                if len(found) < 2:
                    self.same(row, found)
            if row is not None:
                self.assertTrue(unlike(row))
                self.assertIsNone(first_row(unlike, (), (0, 1, 2, 3, 4), len(row) - 1))
            self.same(alike(one, other), row is None)
            self.same(apart(other, one), row)
        self.assertGreater(told, 30)


def random_pair(lot):
    """Two things with few stands and signs, the one often made of the other."""
    rules = [random_small_rule(lot) for _ in range(lot.randint(1, 6))]
    changed = list(rules)
    if lot.random() < 0.8:
        changed[lot.randrange(len(rules))] = random_small_rule(lot)
    return made(rules, 0, lot.randint(0, 4)), made(changed, 0, lot.randint(0, 4))


def random_small_rule(lot):
    word = lot.choice((0, 1, "other", "other", "end"))
    item = lot.choice((("put", random_row(lot, 2, 1)), ("plus", lot.choice((0, 1, 99))), ("own", 1, 0)))
    items = lot.choice(((), (item,), (item, ("put", (1,)))))
    return (lot.randint(0, 2), word, items, None if word == "end" else lot.randint(0, 2))


class TestForms(Case):
    def apart_form(self, one, other, form, row, numbers):
        for first, second in ((one, other), (list(other), list(one))):
            self.same(apart_form(first, second, form), row)
            self.same(twists(first, second, form), numbers)

    def test_alike(self):
        for form in range(5):
            self.apart_form(COPY, COPY, form, None, [])
            self.same(apart_at(COPY, COPY, form, 7), None)

    def test_every_form_and_number(self):
        for form in range(5):
            self.apart_form(COPY, NOTHING, form, (form, 0), list(range(100)))
            self.same(apart_at(COPY, NOTHING, form, 42), (form, 42))

    def test_one_form_alone(self):
        other = made([(0, 2, put(50), 1), (0, "other", [("plus", 0)], 1), (1, "other", [("plus", 0)], 1)])
        self.apart_form(COPY, other, 2, (2, 0), list(range(100)))
        for form in (0, 1, 3, 4):
            self.apart_form(COPY, other, form, None, [])

    def test_rows_that_are_no_things_of_the_form_do_not_count(self):
        # They differ for (), for rows of one sign, and for scraps; not for things.
        one = made([(0, "end", put(1), None), (0, "other", (), 1), (1, "end", put(2), None),
                    (1, "other", [("plus", 0)], 2), (2, "other", [("plus", 0)], 2)])
        other = made([(0, "other", (), 1), (1, "other", [("plus", 0)], 2), (2, "other", [("plus", 0)], 2)])
        self.same(apart(one, other), ())
        for form in range(5):
            self.apart_form(one, other, form, None, [])
            self.same(apart_at(one, other, form, 2), None)
        scraps = made([(0, 5, put(9), 1), (0, "other", (), 1), (1, "other", [("plus", 0)], 2),
                       (2, "other", [("plus", 0)], 2)])
        self.same(apart(other, scraps), (5,))
        self.apart_form(other, scraps, 4, None, [])

    def test_what_is_written_at_the_first_two_signs(self):
        one = made([(0, "other", put(7), 1), (1, "other", put(8), 2), (2, "other", [("plus", 0)], 2)])
        other = made([(0, "other", (), 1), (1, "other", put(7, 8), 2), (2, "other", [("plus", 0)], 2)])
        self.same(apart(one, other), (0,))
        for form in range(5):
            self.apart_form(one, other, form, None, [])

    def test_some_numbers(self):
        rules = [(0, 3, (), 1), (1, "other", (), 2), (2, "other", [("plus", 0)], 2)]
        other = [(0, 3, (), 1), (1, 5, (), 3), (1, 50, (), 3), (1, 7, (), 4), (1, 99, put(1), 2), (1, 8, (), 5),
                 (1, "other", (), 2), (2, "other", [("plus", 0)], 2), (3, "other", [("plus", 0)], 3),
                 (3, 6, put(1), 3), (4, "other", [("plus", 0)], 4), (4, "end", put(1), None), (5, 6, put(6), 5),
                 (5, "other", [("plus", 0)], 5)]
        self.apart_form(made(rules), made(other), 3, (3, 7), [5, 7, 50, 99])
        self.same(apart_at(made(rules), made(other), 3, 5), (3, 5, 6))
        self.same(apart_at(made(rules), made(other), 3, 50), (3, 50, 6))
        self.same(apart_at(made(rules), made(other), 3, 7), (3, 7))
        self.same(apart_at(made(rules), made(other), 3, 99), (3, 99))
        for number in (0, 6, 8, 51, 98):
            self.same(apart_at(made(rules), made(other), 3, number), None)
        self.apart_form(made(rules), made(other), 2, None, [])
        self.apart_form(made(rules), made(other[:4] + other[5:]), 3, (3, 7), [5, 7, 50])
        self.apart_form(made(rules), made(other[:3] + other[4:]), 3, (3, 99), [5, 50, 99])
        self.apart_form(made(rules), made(other[:3] + other[5:]), 3, (3, 5, 6), [5, 50])

    def test_numbers_behind_which_they_are_unlike_far_away(self):
        way = [(at, "other", (), at + 1) for at in range(2, 40)]
        rules = [(0, 0, (), 1), (1, 20, (), 30), (1, 21, (), 39), (1, 22, (), 90), (1, "other", (), 2)] + way
        one, other = made(rules), made(rules + [(40, "end", put(1), None)])
        numbers = [number for number in range(100) if number != 22]
        self.apart_form(one, other, 0, (0, 21, 0), numbers)
        self.same(apart_at(one, other, 0, 20), (0, 20) + (0,) * 10)
        self.same(apart_at(one, other, 0, 22), None)
        for number in (0, 19, 23, 99):
            self.same(apart_at(one, other, 0, number), (0, number) + (0,) * 38)

    def test_random_things(self):
        lot = random.Random(13)
        for _ in range(25):
            one, other = random_pair(lot)
            slow, slow_other = Slow(one), Slow(other)

            def unlike(row):
                return slow.run(row) != slow_other.run(row)
            for form in (0, 1, 3):
                found = {number: apart_at(one, other, form, number) for number in range(100)}
                self.same(twists(one, other, form), [number for number in found if found[number] is not None])
                rows = [row for row in found.values() if row is not None]
                self.same(apart_form(one, other, form), min(rows, key=row_order) if rows else None)
                for number in (0, 1, 2, 3, 50):
                    wanted = first_row(unlike, (form, number), (0, 1, 2, 3), 3)
                    if wanted is not None:
                        self.same(found[number], wanted)
                    elif found[number] is not None:
                        self.assertGreater(len(found[number]), 5)
                        self.assertTrue(unlike(found[number]))


SMALL = [sized([], 8000), sized([(0, 1, (), 0)] * 200, 8000), made([(0, 1, (), 0)] * 200),
         sized([(0, "other", [("own", 1, 1)] * 2, 0)], 8000), sized([(0, 1, [("own", 1, 1)] * 4, 0)], 5000),
         made([(0, 1, (), 0), (0, 1, writing(6000), 0), (0, "end", [("plus", 1)] * 99, None)]),
         # just 20,000 signs, of which a plus at the end is none
         sized([(0, "end", [("own", 1, 1)] * 4 + [("plus", 3)] * 9, None)], 5000), (0, 0), (4, 99, 80)]
LARGE = [sized([], 8001), sized([], 19998), made([(0, 1, (), 0)] * 201), made([(0, 1, (), 0)] * 1000),
         sized([(0, "other", [("own", 1, 1)] * 4, 0)], 5001), sized([(7, 1, [("own", 1, 1)] * 4, 0)], 5001),
         sized([(0, 1, (), 0), (0, 1, [("own", 1, 1)] * 4 + [("plus", 3)], 0)], 5000),
         sized([(0, "other", [("own", 1, 1)] * 4 + [("plus", 3)], 0)], 5000),
         sized([(0, "end", [("own", 1, 1)] * 4 + [("put", (3,))], None)], 5000),
         sized([(0, "end", [("own", 1, 1)] * 4 + [("plus", 3)] * 9, None)], 5001),
         sized([(50, "end", [("own", 1, 1)] * 99, None)], 7999)]


class TestWrong(Case):
    def test_small_things(self):
        for thing in SMALL:
            self.assertIs(is_small(thing), True)
            self.assertIs(alike(thing, list(thing)), True)
            self.same(twists(thing, thing, 1), [])
            for other in SMALL:
                self.assertIn(alike(thing, other), (True, False))

    def test_things_that_are_not_small(self):
        for thing in LARGE:
            self.assertIs(is_small(thing), False)
            for pair in ((thing, COPY), (COPY, list(thing)), (thing, thing)):
                self.wrong(TooMany, None, alike, *pair)
                self.wrong(TooMany, None, apart, *pair)
                self.wrong(TooMany, None, apart_form, *pair, 1)
                self.wrong(TooMany, None, twists, *pair, 1)
                self.wrong(TooMany, None, apart_at, *pair, 1, 1)

    def test_no_things(self):
        calls = ((alike, ()), (apart, ()), (apart_form, (1,)), (twists, (1,)), (apart_at, (1, 1)))
        for function, more in calls:
            for value in no_things()[::3] + [None, (), (5, 1), "ab", (1, True)]:
                self.wrong(BadThing, value, function, value, COPY, *more)
                self.wrong(BadThing, value, function, COPY, value, *more)
                self.wrong(BadThing, value, function, LARGE[0], value, *more)

    def test_no_forms(self):
        for value in NO_FORMS:
            self.wrong(BadForm, value, apart_form, COPY, NOTHING, value)
            self.wrong(BadForm, value, twists, COPY, NOTHING, value)
            self.wrong(BadForm, value, apart_at, COPY, NOTHING, value, 0)
            self.wrong(BadForm, value, apart_form, COPY, COPY, value)

    def test_no_signs(self):
        for value in NO_SIGNS:
            self.wrong(BadSign, value, apart_at, COPY, NOTHING, 4, value)

    def test_the_first_wrong_argument(self):
        self.wrong(BadThing, (5,), alike, (5,), None)
        self.wrong(BadThing, None, apart, None, LARGE[0])
        self.wrong(BadThing, 3, apart, LARGE[0], 3)
        for function, more in ((apart_form, ()), (twists, ()), (apart_at, (0,)), (apart_at, (None,))):
            self.wrong(BadThing, (5,), function, (5,), (6,), 9, *more)
            self.wrong(BadThing, (6,), function, COPY, (6,), 9, *more)
            self.wrong(TooMany, None, function, COPY, LARGE[1], 9, *more)
            self.wrong(BadForm, True, function, COPY, COPY, True, *more)

    def test_forms_and_numbers_of_the_things_themselves(self):
        body = body_for(0, [(0, 1, put(1), 0)])
        for form in range(5):
            thing = thing_of(form, form * 3, body)
            self.same(apart(thing, NOTHING), (1,))
            self.same((form_of(thing), number_of(thing)), (form, form * 3))


if __name__ == "__main__":
    unittest.main()
