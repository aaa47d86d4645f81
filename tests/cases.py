"""What several tests share: values that are wrong somewhere, and checks of errors."""

import random
import unittest

from trulymade.books import Book
from trulymade.closing import Closing
from trulymade.errors import MadeError
from trulymade.rows import thing_of
from trulymade.rules import Rules, body_for
from trulymade.running import Machine


def nested(depth):
    value = [1]
    for _ in range(depth):
        value = [value]
    return value


EMPTY_BOOK = Book((), (), (), (), (), (), 0)

# What is neither a list nor a tuple, and so no row of anything.
NO_LISTS = [None, True, False, 0, 3, -1, 10 ** 400, "", "ab", "0 1\n2", {}, {0: 1, 1: 2},
            Rules((1, 2, 3)), EMPTY_BOOK, Closing(EMPTY_BOOK, (), None), Machine((0, 0), ())]

NO_SIGNS = [-1, 100, 119, 10 ** 400, -10 ** 400, None, True, False, "", "1", "a\nb", [], [1],
            (), (1,), {}, {1: 1}, nested(20), Rules((5,))]

NO_FORMS = NO_SIGNS + [5, 99]

NO_NAMES = [None, True, False, 0, 7, -1, 10 ** 400, "", " ", "A", "aB", "a1", "1", "a b", "a ", " a",
            "a\n", "\n", "a-b", "a_b", "abcdefghi", "a" * 10 ** 5, "`", "{", "\u00e9", (), ("a",), [],
            ["a"], {}, {"a": 1}, nested(20), Rules((5,)), EMPTY_BOOK]


def rows_with(wrong):
    """Rows but for one item, which stands at the first, a middle and the last place."""
    found = []
    for at in (0, 1, 2, 3, 4):
        row = [1, 2, 3, 4, 5]
        row[at] = wrong
        found += [row, tuple(row)]
    return found + [[wrong], (wrong,)]


def no_rows():
    found = list(NO_LISTS)
    for wrong in NO_SIGNS:
        found += rows_with(wrong)
    return found


SCRAPS = [(), (0,), (3,), (4,), (5,), (99,), (5, 1), (6, 1, 2), (99, 99), (20, 0, 0)]


def no_things():
    return no_rows() + SCRAPS + [list(row) for row in SCRAPS]


def random_row(lot, most, top=99):
    return tuple(lot.randint(0, top) for _ in range(lot.randint(0, most)))


def random_item(lot):
    kind = lot.choice(("put", "plus", "own"))
    if kind == "put":
        return ("put", random_row(lot, 4))
    if kind == "plus":
        return ("plus", lot.randint(0, 99))
    return ("own", lot.randint(0, 99), lot.randint(0, 99))


def random_rule(lot):
    word = lot.choice((lot.randint(0, 99), "other", "end"))
    items = tuple(random_item(lot) for _ in range(lot.randint(0, 4)))
    return (lot.randint(0, 99), word, items, None if word == "end" else lot.randint(0, 99))


def random_rules(seed):
    lot = random.Random(seed)
    return tuple(random_rule(lot) for _ in range(lot.randint(0, 6)))


def made(rules, start=0, form=0, number=0):
    """A thing with these rules."""
    return thing_of(form, number, body_for(start, rules))


def sized(rules, size):
    """A thing with these rules and so many signs in its body; what is behind them is no rule."""
    body = body_for(0, rules)
    return (0, 0) + body + (99,) * (size - len(body))


class Case(unittest.TestCase):
    def same(self, told, wanted):
        """Equal, with things of the same kinds inside: a list is no tuple, a flag no integer."""
        self.assertEqual(told, wanted)
        self.assertEqual(repr(told), repr(wanted))

    def wrong(self, kind, value, function, *arguments):
        """The call raises this kind with this value and leaves its arguments as they were."""
        before = repr(arguments)
        with self.assertRaises(MadeError) as caught:
            function(*arguments)
        self.assertIs(type(caught.exception), kind)
        self.same(caught.exception.value, value)
        self.assertEqual(repr(arguments), before)
