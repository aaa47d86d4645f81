"""Points [14], [15] and [16]."""

import random
import unittest

from tests.cases import NO_FORMS, NO_LISTS, NO_SIGNS, Case, made, no_things, random_row, sized
from tests.slow import Slow
from trulymade.errors import BadCount, BadOthers, BadParts, BadThing, TooLong
from trulymade.likeness import alike, apart_at, twists
from trulymade.makers import maker, rounds, twisted
from trulymade.programs import is_small
from trulymade.right import first_wrong, is_right, leads
from trulymade.rows import is_row, is_thing, thing_of
from trulymade.rules import Rules
from trulymade.running import run

NUMBERS = {number: (number * 7 + 3) % 100 for number in range(100)}
PARTS = [
    {},
    {0: (1, 7, {})},
    {3: (3, 0, {3: 4, 99: 0, 0: 99})},
    {4: (0, 99, {}), 1: (2, 5, {5: 6}), 0: (0, 0, {})},
    {0: (4, 1, {1: 2}), 1: (3, 2, {2: 3}), 2: (2, 3, {3: 4}), 3: (1, 4, {4: 5}), 4: (0, 5, {5: 6, 6: 5})},
    {2: (0, 50, NUMBERS)},
    {form: (0, 9, {number: form for number in range(form, 100, 5)}) for form in range(5)},
]
BODIES = [(), (0,), (99, 0), (0, 0, 1, 0, 0), tuple(range(100))]
NO_THINGS = [(), (0,), (1,), (2,), (3,), (4,), (5,), (5, 1), (99, 1, 2), (20, 0), (9,) * 9]


def no_dicts():
    return [value for value in NO_LISTS if not isinstance(value, dict)] + [[], (), [(0, (1, 7, {}))], ((0, 1),)]


class TestMaker(Case):
    def test_it_is_a_whole_body(self):
        for parts in PARTS:
            body = maker(parts)
            self.assertIsInstance(body, tuple)
            self.assertTrue(is_row(body))
            self.same(maker(dict(parts)), body)
            self.assertTrue(is_small(thing_of(0, 0, body)))

    def test_what_it_writes(self):
        for parts in PARTS:
            thing = thing_of(2, 50, maker(parts))
            for source in parts:
                target, number, numbers = parts[source]
                for read in range(0, 100, 3):
                    for body in BODIES[:1 + read % 5]:
                        wanted = thing_of(target, numbers.get(read, number), body)
                        self.same(run(thing, thing_of(source, read, body)), wanted)
            for source in range(5):
                if source not in parts:
                    self.same(run(thing, (source, 5, 7)), ())
                    self.same(run(thing, (source, 0)), ())
            for row in NO_THINGS:
                self.same(run(thing, row), ())

    def test_it_is_right(self):
        for parts in PARTS:
            thing = thing_of(1, 0, maker(parts))
            for source in range(5):
                for target in range(5):
                    right = source in parts and parts[source][0] == target
                    self.assertIs(is_right(source, target, thing), right)
                    self.same(first_wrong(thing, source, target), None if right else (source, 0))

    def test_the_order_of_the_keys_means_nothing_for_what_it_does(self):
        for parts in PARTS:
            back = {form: parts[form][:2] + ({sign: parts[form][2][sign] for sign in reversed(parts[form][2])},)
                    for form in reversed(parts)}
            self.assertTrue(alike(thing_of(0, 0, maker(parts)), thing_of(1, 1, maker(back))))

    def test_more_than_a_hundred_keys(self):
        parts = {form: (form, 9, NUMBERS) for form in range(5)}
        thing = thing_of(0, 0, maker(parts))
        for form in range(5):
            for number in range(100):
                self.same(run(thing, (form, number, 5)), (form, NUMBERS[number], 5))

    def test_no_dict(self):
        for value in no_dicts():
            self.wrong(BadParts, -1, maker, value)
            self.wrong(BadParts, -1, twisted, value, {})
            self.wrong(BadParts, -1, twisted, value, None)

    def wrong_part(self, key, value):
        good = (1, 7, {})
        for parts in ({key: value}, {0: good, key: value}, {0: good, key: value, 9: value}):
            self.wrong(BadParts, key, maker, parts)
            self.wrong(BadParts, key, twisted, parts, {})
            self.wrong(BadParts, key, twisted, parts, {None: None})

    def test_wrong_keys(self):
        for key in (5, -1, 99, 100, None, "0", "", (0,), (), 10 ** 400):
            self.wrong_part(key, (1, 7, {}))
        for key in (True, False):
            self.wrong(BadParts, key, maker, {key: (1, 7, {})})

    def test_wrong_values(self):
        for value in NO_LISTS + [[1, 7, {}], (), (1,), (1, 7), (1, 7, {}, {}), (1, 7, ()), (1, 7, []), (1, 7, None),
                                 (1, 7, ((1, 2),)), ((1, 7, {}),)]:
            self.wrong_part(2, value)
        for value in NO_FORMS:
            self.wrong_part(2, (value, 7, {}))
        for value in NO_SIGNS:
            self.wrong_part(2, (1, value, {}))
            self.wrong_part(2, (1, 7, {5: value}))
            self.wrong_part(2, (1, 7, {4: 4, 5: value, 6: 6}))
        for key in (-1, 100, None, True, "1", (1,), ()):
            self.wrong_part(2, (1, 7, {key: 5}))
            self.wrong_part(2, (1, 7, {4: 4, key: 5}))

    def test_the_first_wrong_key(self):
        self.wrong(BadParts, 3, maker, {4: (0, 0, {}), 3: None, 9: None, 2: ()})
        self.wrong(BadParts, 9, maker, {4: (0, 0, {}), 9: None, 3: None})


class TestTwisted(Case):
    def check(self, parts, others):
        """It writes the others for what they stand for, and otherwise what the maker writes."""
        before = repr((parts, others))
        body = twisted(parts, others)
        self.same(twisted(parts, others), body)
        self.assertEqual(repr((parts, others)), before)
        thing = thing_of(3, 1, body)
        honest = thing_of(0, 0, maker(parts))
        self.assertTrue(is_small(thing))
        for form in range(5):
            for number in sorted({number for _, number in others} | {0, 41, 99}):
                for body_read in BODIES[:1 + number % 4]:
                    read = thing_of(form, number, body_read)
                    wanted = self.answer(others[(form, number)], body) if (form, number) in others \
                        else run(honest, read)
                    self.same(run(thing, read), wanted)
            if form in parts:
                self.same(twists(honest, thing, form), sorted(n for f, n in others if f == form))
        for row in NO_THINGS:
            self.same(run(thing, row), ())

    def answer(self, value, body):
        if value and value[0] == "itself":
            return thing_of(value[1], value[2], body)
        return tuple(value)

    def test_nothing_twisted(self):
        for parts in PARTS:
            self.check(parts, {})
            self.assertTrue(alike(thing_of(0, 0, maker(parts)), thing_of(0, 0, twisted(parts, {}))))

    def test_rows(self):
        for parts in PARTS:
            self.check(parts, {(0, 5): (), (0, 0): (1,), (2, 99): [9, 8, 7], (3, 3): (3, 3), (4, 4): [0, 1] * 100})

    def test_long_rows(self):
        lot = random.Random(15)
        lengths = (98, 99, 100, 197, 198, 199, 297, 396, 499, 500)
        others = {(at % 5, at * 9): tuple(lot.randint(0, 99) for _ in range(many)) for at, many in enumerate(lengths)}
        for parts in PARTS:
            self.check(parts, others)
        self.check(PARTS[5], {(2, at): (at,) * 500 for at in range(10)})

    def test_itself(self):
        for parts in PARTS:
            self.check(parts, {(0, 5): ("itself", 1, 7)})
            self.check(parts, {(form, 50 + form): ("itself", 4 - form, form) for form in range(5)})
            self.check(parts, {(2, 0): ("itself", 0, 0), (2, 1): ("itself", 4, 99), (2, 2): (5,)})

    def test_the_same_form_and_number_in_the_numbers(self):
        self.check({2: (3, 1, {5: 6, 7: 8})}, {(2, 5): (1, 2, 3), (2, 9): ()})

    def test_random(self):
        lot = random.Random(16)
        for _ in range(6):
            parts = {form: (lot.randint(0, 4), lot.randint(0, 99), {lot.randint(0, 99): lot.randint(0, 99)
                                                                    for _ in range(lot.randint(0, 20))})
                     for form in lot.sample(range(5), lot.randint(0, 5))}
            others = {(lot.randint(0, 4), lot.randint(0, 99)):
                      lot.choice((random_row(lot, 500), ("itself", lot.randint(0, 4), lot.randint(0, 99))))
                      for _ in range(10)}
            self.check(parts, others)

    def test_a_twisted_one_that_makes_itself_anew(self):
        # An honest maker for the forms 0 and 1, and a twisted one that writes itself for it.
        honest = thing_of(0, 10, maker({0: (1, 20, {10: 11})}))
        twist = thing_of(1, 11, twisted({0: (1, 20, {10: 11})}, {(0, 10): ("itself", 1, 11)}))
        self.assertEqual(run(twist, honest), twist)
        self.same(rounds(twist, honest, 10), [twist] * 10)
        self.assertIs(leads(twist, 1, honest), False)
        self.assertIs(is_right(0, 1, twist), False)
        self.same(apart_at(twist, honest, 0, 10), (0, 10))
        self.same(twists(honest, twist, 0), [10])
        clean = run(honest, honest)
        self.same(rounds(honest, honest, 3), [clean] * 3)

    def test_no_dict(self):
        for value in no_dicts():
            self.wrong(BadOthers, -1, twisted, {0: (1, 7, {})}, value)

    def wrong_other(self, key, value):
        for others in ({key: value}, {(4, 4): (), key: value}, {(4, 4): (), key: value, (9, 9): value}):
            self.wrong(BadOthers, key, twisted, {0: (1, 7, {})}, others)

    def test_wrong_keys(self):
        for key in (None, 0, True, "ab", "", (), (0,), (0, 1, 2), (5, 0), (-1, 0), (0, 100), (0, -1), (True, 1),
                    (1, False), (None, 1), ("0", 1), (1, (1,)), ("itself", 1, 2)):
            self.wrong_other(key, (1, 2))
            self.wrong_other(key, ("itself", 1, 2))

    def test_wrong_values(self):
        for value in NO_LISTS + [(100,), [1, True], (1, None), (1,) * 501, [1] * 501, [1] * 20000, ("itself",),
                                 ("itself", 1), ("itself", 1, 2, 3), ["itself", 1, 2], ("Itself", 1, 2), ("it", 1, 2),
                                 (None, 1, 2), ("itself", (1, 2)), ("itself", 5, 2), ("itself", 1, 100)]:
            self.wrong_other((1, 2), value)
        for value in NO_FORMS:
            self.wrong_other((1, 2), ("itself", value, 7))
        for value in NO_SIGNS:
            self.wrong_other((1, 2), ("itself", 1, value))
            self.wrong_other((1, 2), (1, value, 3))

    def test_the_first_wrong_key(self):
        self.wrong(BadOthers, (3, 3), twisted, {}, {(1, 1): (1,), (3, 3): None, (2, 2): None})
        self.wrong(BadOthers, (9, 9), twisted, {}, {(1, 1): (1,), (9, 9): (), (2, 2): None})
        self.wrong(BadParts, 9, twisted, {9: None}, {(9, 9): ()})


class TestRounds(Case):
    def test_right_makers(self):
        first = thing_of(0, 1, maker({0: (1, 5, {1: 6}), 1: (0, 7, {})}))
        second = thing_of(0, 2, maker({0: (2, 8, {})}))
        for many in range(1, 11):
            told = rounds(list(first), list(second), many)
            self.assertEqual(len(told), many)
            self.same(told[0], thing_of(1, 5, maker({0: (2, 8, {})})))
            self.same(told[1:], [thing_of(2, 8, maker({0: (2, 8, {})}))] * (many - 1))

    def test_each_item_is_what_the_one_ahead_writes(self):
        lot = random.Random(17)
        for _ in range(200):
            one, other = (0, 0) + random_row(lot, 30, 2), (0, 5) + random_row(lot, 30, 2)
            told = rounds(one, other, 10)
            ahead = one
            for at, item in enumerate(told):
                self.same(item, Slow(ahead).run(other))
                self.assertIs(is_thing(item) or at == len(told) - 1, True)
                ahead = item
            self.assertTrue(len(told) == 10 or not is_thing(told[-1]))

    def test_rounds_that_end_with_a_scrap(self):
        self.same(rounds((0, 0), (0, 0), 10), [()])
        self.same(rounds((0, 0), (0, 0), 1), [()])
        scrap = made([(0, "end", [("put", (5, 5))], None), (0, "other", (), 0)])
        self.same(rounds(scrap, (0, 0), 7), [(5, 5)])
        # Writes a thing that writes nothing.
        twice = made([(0, "end", [("put", (1, 2))], None), (0, "other", (), 0)])
        self.same(rounds(twice, scrap, 7), [(1, 2), ()])
        self.same(rounds(twice, scrap, 2), [(1, 2), ()])
        self.same(rounds(twice, scrap, 1), [(1, 2)])

    def test_each_round_another_thing(self):
        things = [(5, 50)]
        for number in range(4):
            things.append(made([(0, "other", (), 0), (0, "end", [("put", things[-1])], None)], 0, 0, number))
        things.reverse()
        self.same(rounds(things[0], (0, 0), 10), things[1:])
        self.same(rounds(things[0], (0, 0), 3), things[1:4])

    def test_one_and_ten(self):
        itself = made([(0, "other", (), 0), (0, "end", [("put", (0, 0)), ("own", 0, 0)], None)])
        self.same(rounds(itself, (0, 0), 1), [itself])
        self.same(rounds(itself, (0, 0), 10), [itself] * 10)
        self.same(Rules(itself[2:]).tail, ())

    def test_too_long(self):
        self.wrong(TooLong, None, rounds, sized([(0, 0, [("own", 1, 1)] * 3, 0)], 8000), (0, 0), 1)
        # The first outcome is a thing that writes too much.
        doubling = made([(0, 0, [("put", (8,) * 99)] * 99, 0)])
        rules = [(0, "other", [("plus", 0)], 0)]
        self.same(rounds(made(rules), doubling, 1), [doubling])
        self.wrong(TooLong, None, rounds, made(rules), doubling[:2] + doubling[2:] + (0, 0, 0), 2)

    def test_wrong_arguments(self):
        for value in no_things():
            self.wrong(BadThing, value, rounds, value, (0, 0), 1)
            self.wrong(BadThing, value, rounds, (0, 0), value, 1)
        for value in (0, 11, -1, 10 ** 400, None, True, False, "1", "", (), (1,), [1], {}, {1: 1}, Rules((1,))):
            self.wrong(BadCount, value, rounds, (0, 0), (0, 0), value)
        self.wrong(BadThing, (5,), rounds, (5,), (6,), 0)
        self.wrong(BadThing, (6,), rounds, (0, 0), (6,), 0)
        self.wrong(BadCount, 0, rounds, sized([(0, 0, [("own", 1, 1)] * 3, 0)], 8000), (0, 0), 0)


if __name__ == "__main__":
    unittest.main()
