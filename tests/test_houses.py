"""Points [35] and [36]; with [1], what all of it is for."""

import random
import unittest

from tests.cases import NO_FORMS, NO_LISTS, NO_NAMES, NO_SIGNS, SCRAPS, Case, made, nested, no_rows, rows_with, sized
from tests.doubts import ANSWERED, full_book, planned_book
from tests.samples import all_claims, names
from trulymade.answers import answer
from trulymade.books import Book
from trulymade.building import some_world, world_without
from trulymade.closing import Closing
from trulymade.errors import (BadBook, BadClaim, BadFlag, BadForm, BadName, BadPlace, BadRow, MadeError, NothingDone,
                              TooLong, TooMany)
from trulymade.houses import House
from trulymade.makers import maker, twisted
from trulymade.plans import grown, plan
from trulymade.rows import thing_of
from trulymade.rules import body_for
from trulymade.running import run
from trulymade.worlds import is_world

# A maker from form 0 to form 1, and one that knows the number of this one and makes itself instead.
HONEST = thing_of(0, 1, maker({0: (1, 20, {1: 21})}))
TWIST = thing_of(0, 9, twisted({0: (1, 20, {1: 21})}, {(0, 1): ("itself", 1, 21)}))
SOURCE = thing_of(0, 2, body_for(0, [(0, "other", [("plus", 1)], 0)]))
BINARY = run(HONEST, SOURCE)
# Writes the scrap (50, 1) for each row.
ODD = made([(0, "other", (), 0), (0, "end", [("put", (50, 1))], None)], 0, 0, 3)

# A deed of each kind, in an order in which they can be done.
DEEDS = [
    lambda house: house.put("twist", TWIST),
    lambda house: house.put("tag", [99]),
    lambda house: house.host("joe", 2),
    lambda house: house.bend("hal", "odd", "make", [1, 2, 3]),
    lambda house: house.make("hal", "odd", "make", "bent"),
    lambda house: house.make("hal", "make", "make", "self"),
    lambda house: house.make("hal", "make", "src", "none"),
    lambda house: house.note(("as", "odd", "src"), True),
    lambda house: house.note(("apart", "odd", "src"), False),
    lambda house: house.allow(2),
    lambda house: house.withdraw(0),
]


def filled():
    house = House()
    for name, row in (("make", HONEST), ("src", SOURCE), ("odd", ODD), ("rag", (5, 1))):
        house.put(name, row)
    house.host("hal", 0)
    house.host("ida", 1)
    house.make("hal", "make", "src", "bin")
    house.note(("host", "hal"), True)
    house.note(("right", "make", 0, 1), False)
    house.allow(1)
    return house


def state(house):
    """All that a house tells, also what its hosts say."""
    told = house.book()
    rows = {name: house.row_of(name) for name in [name for name, _ in told.things] + list(told.scraps)}
    said = []
    for host, form in told.hosts:
        for name, own in told.things:
            for thing, _ in told.things:
                if own == form:
                    said.append(house.trying(lambda trial: saying(trial, host, name, thing)))
    return told, house.names(), rows, house.world(), house.false_notes(), said


def saying(house, host, name, thing):
    try:
        return house.row_of(house.make(host, name, thing, "spare"))
    except MadeError as error:
        return type(error)


class HouseCase(Case):
    def refused(self, house, kind, value, deed, *arguments):
        """The deed of this name raises this, and changes nothing, nor what undo takes back."""
        before = house.book(), house.names(), house.world()
        self.wrong(kind, value, getattr(house, deed), *arguments)
        self.assertEqual((house.book(), house.names(), house.world()), before)


class TestPut(HouseCase):
    def test_things_and_scraps(self):
        house = House()
        self.same(house.names(), [])
        self.assertEqual(house.book(), Book((), (), (), (), (), (), 0))
        self.assertIsNone(house.put("src", SOURCE))
        self.assertIsNone(house.put("rag", [5, 1]))
        self.assertIsNone(house.put("bin", list(BINARY)))
        self.assertIsNone(house.put("tag", ()))
        self.assertEqual(house.book(), Book((("src", 0), ("bin", 1)), ("rag", "tag"), (), (), (), (), 0))
        self.same(house.names(), ["bin", "rag", "src", "tag"])
        for name, row in (("src", SOURCE), ("rag", (5, 1)), ("bin", BINARY), ("tag", ())):
            self.same(house.row_of(name), row)

    def test_forms(self):
        house = House()
        for form in range(5):
            house.put("abcde"[form], (form, 0))
        house.put("f", (5, 0))
        self.same(house.book().things, tuple(zip("abcde", range(5))))
        self.same(house.book().scraps, ("f",))

    def test_rows_are_copied(self):
        house = House()
        row = [0, 1, 2]
        house.put("a", row)
        row.append(3)
        self.same(house.row_of("a"), (0, 1, 2))
        house.put("b", row)
        self.same(house.row_of("b"), (0, 1, 2, 3))

    def test_bad_names(self):
        house = filled()
        for name in NO_NAMES + ["make", "src", "rag", "bin", "hal", "ida"]:
            self.refused(house, BadName, name, "put", name, (0, 77))
            self.refused(house, BadName, name, "put", name, None)
            self.refused(house, BadName, name, "put", name, SOURCE)
            self.refused(house, BadName, name, "host", name, 0)
            self.refused(house, BadName, name, "host", name, None)

    def test_bad_rows(self):
        house = filled()
        for row in no_rows() + [HONEST, SOURCE, list(SOURCE), BINARY, (5, 1), [5, 1], nested(20)]:
            self.refused(house, BadRow, row, "put", "eve", row)

    def test_how_many(self):
        house = House()
        for at, name in enumerate(names(16)):
            house.put(name, (at % 5, at))
        self.refused(house, TooMany, None, "put", "eve", (0, 99))
        for at, name in enumerate(names(6, "s")):
            house.put(name, (99, at))
        self.refused(house, TooMany, None, "put", "eve", (99, 99))
        # Ahead of the numbers come the name and the row.
        self.refused(house, BadName, "aa", "put", "aa", (0, 99))
        self.refused(house, BadRow, (0, 0), "put", "eve", (0, 0))
        self.refused(house, BadRow, (100,), "put", "eve", (100,))
        for at, name in enumerate(names(6, "h")):
            self.assertIsNone(house.host(name, at % 5))
        self.refused(house, TooMany, None, "host", "eve", 0)
        self.refused(house, BadForm, 5, "host", "eve", 5)
        self.refused(house, BadName, "ha", "host", "ha", 0)
        self.assertEqual([len(house.book().things), len(house.book().scraps), len(house.book().hosts)], [16, 6, 6])

    def test_how_large(self):
        own = ("own", 1, 1)
        for small, large in (
                (sized([], 8000), sized([], 8001)),
                (made([(0, 1, (), 0)] * 200), made([(0, 1, (), 0)] * 201)),
                (sized([(0, 1, [own] * 4, 0)], 5000), sized([(0, 1, [own] * 4 + [("plus", 0)], 0)], 5000)),
                (sized([(9, 1, [own] * 3 + [("put", (1,) * 99)], 0)], 6633),
                 sized([(9, "end", [own] * 3, None)], 6667)),
                ((99,) * 8000, (99,) * 8001), ((), (99,) * 20000)):
            house = House()
            self.refused(house, TooMany, None, "put", "a", large)
            house.put("a", small)
            self.same(house.row_of("a"), small)

    def test_hosts(self):
        house = House()
        for form in range(5):
            self.assertIsNone(house.host("abcde"[form], form))
        self.same(house.book().hosts, tuple(zip("abcde", range(5))))
        self.same(house.names(), list("abcde"))
        for form in NO_FORMS:
            self.refused(house, BadForm, form, "host", "eve", form)

    def test_names_of_all_kinds_are_unlike(self):
        house = House()
        house.host("a", 0)
        self.refused(house, BadName, "a", "put", "a", (0, 0))
        self.refused(house, BadName, "a", "put", "a", (99,))
        house.put("b", (99,))
        self.refused(house, BadName, "b", "host", "b", 0)
        self.refused(house, BadName, "b", "put", "b", (0, 0))


class TestMake(HouseCase):
    def test_the_truth(self):
        house = filled()
        self.same(house.make("hal", "make", "make", "self"), "self")
        self.same(house.row_of("self"), run(HONEST, HONEST))
        self.same(house.book().makings, (("hal", "make", "src", "bin"), ("hal", "make", "make", "self")))
        self.same(house.make("ida", "self", "make", "what"), "self")
        self.same(house.book().makings[2], ("ida", "self", "make", "self"))
        self.same(house.book().form("self"), 1)

    def test_a_row_that_the_house_has(self):
        house = filled()
        before = house.book()
        for name in ["eve", "bin", "src", "hal"] + NO_NAMES:
            self.same(house.make("hal", "make", "src", name), "bin")
            self.assertEqual(house.book(), before)
        house.put("tag", (50, 1))
        self.same(house.make("hal", "odd", "src", None), "tag")
        self.same(house.book().makings[-1], ("hal", "odd", "src", "tag"))

    def test_scraps(self):
        house = filled()
        self.same(house.make("hal", "odd", "odd", "tag"), "tag")
        self.same(house.row_of("tag"), (50, 1))
        self.same(house.book().scraps, ("rag", "tag"))
        self.same(house.make("hal", "make", "bin", "empty"), "empty")
        self.same(house.row_of("empty"), ())

    def test_bent(self):
        house = filled()
        self.assertIsNone(house.bend("hal", "odd", "src", [1, 7, 7]))
        self.same(house.make("hal", "odd", "src", "bent"), "bent")
        self.same(house.row_of("bent"), (1, 7, 7))
        self.same(house.book().things[-1], ("bent", 1))
        # Just for this maker and this thing at this host.
        self.same(house.make("hal", "odd", "odd", "tag"), "tag")
        house.host("hob", 0)
        self.same(house.make("hob", "odd", "src", "eve"), "tag")
        self.same(house.make("hal", "odd", "src", "eve"), "bent")
        # Bent anew, to a row that the house has, and to the truth.
        house.bend("hal", "odd", "src", BINARY)
        self.same(house.make("hal", "odd", "src", None), "bin")
        house.bend("hal", "odd", "src", (50, 1))
        self.same(house.make("hal", "odd", "src", None), "tag")
        self.same([making for making in house.book().makings if making[0] == "hal" and making[2] == "src"],
                  [("hal", "make", "src", "bin"), ("hal", "odd", "src", "bent"), ("hal", "odd", "src", "bin"),
                   ("hal", "odd", "src", "tag")])

    def test_bent_rows_are_copied(self):
        house = filled()
        row = [1, 7, 7]
        house.bend("hal", "odd", "src", row)
        row[0] = 99
        house.make("hal", "odd", "src", "bent")
        self.same(house.row_of("bent"), (1, 7, 7))

    def test_bend_changes_no_book(self):
        house = filled()
        before = house.book()
        house.bend("hal", "make", "src", SOURCE)
        self.assertEqual(house.book(), before)
        self.same(house.false_notes(), [])
        house.make("hal", "make", "src", "eve")
        self.same(house.book().makings[1:], (("hal", "make", "src", "src"),))
        self.same(house.false_notes(), [0])

    def test_bad_names_of_what_is_run(self):
        house = filled()
        for deed, last in (("bend", (1,)), ("make", "eve"), ("bend", None), ("make", None)):
            for name in NO_NAMES + ["eve", "make", "rag"]:
                self.refused(house, BadName, name, deed, name, "make", "src", last)
                self.refused(house, BadName, name, deed, name, None, None, last)
            for name in NO_NAMES + ["eve", "hal", "rag"]:
                self.refused(house, BadName, name, deed, "hal", name, "src", last)
                self.refused(house, BadName, name, deed, "hal", name, None, last)
                self.refused(house, BadName, name, deed, "hal", "make", name, last)
                # The name of the thing comes ahead of the form of the maker.
                self.refused(house, BadName, name, deed, "hal", "bin", name, last)
            self.refused(house, BadForm, 1, deed, "hal", "bin", "src", last)
            self.refused(house, BadForm, 0, deed, "ida", "make", "src", last)

    def test_bad_rows_of_bent_makings(self):
        house = filled()
        for row in no_rows():
            self.refused(house, BadRow, row, "bend", "hal", "make", "src", row)
        for row in SCRAPS + [HONEST, BINARY, (5,) * 20000]:
            house.bend("hal", "make", "src", row)

    def test_bad_names_of_new_rows(self):
        house = filled()
        for name in NO_NAMES + ["make", "src", "rag", "bin", "hal"]:
            self.refused(house, BadName, name, "make", "hal", "make", "make", name)
            self.refused(house, BadName, name, "make", "hal", "odd", "src", name)

    def test_too_long(self):
        house = filled()
        house.put("full", made([(0, "other", [("put", (99,) * 80)] * 50, 0)], 0, 0, 3))
        house.put("four", (0, 9, 9, 9, 9))
        house.put("five", (0, 9, 9, 9, 9, 9))
        house.put("two", (0, 8))
        # 20,000 signs may be written, but make no scrap that a house lets.
        self.refused(house, TooMany, None, "make", "hal", "full", "four", "eve")
        self.refused(house, TooLong, None, "make", "hal", "full", "five", "eve")
        self.refused(house, TooLong, None, "make", "hal", "full", "five", None)
        self.refused(house, BadName, None, "make", "hal", "full", "four", None)
        self.same(house.make("hal", "full", "two", "eve"), "eve")
        self.same(house.row_of("eve"), (99,) * 8000)
        house.bend("hal", "full", "five", (4, 4))
        self.same(house.make("hal", "full", "five", "bent"), "bent")
        house.bend("hal", "full", "five", (99,) * 8001)
        self.refused(house, TooMany, None, "make", "hal", "full", "five", "eva")
        house.bend("hal", "full", "five", sized([], 8001))
        self.refused(house, TooMany, None, "make", "hal", "full", "five", "eva")

    def test_a_long_thing(self):
        house = House()
        house.host("hal", 0)
        house.put("a", made([(0, "other", [("put", (0, 5))], 1), (1, "other", [("put", (9,) * 80)] * 95, 1)]))
        house.put("b", (0, 1, 1))
        # Not small, as the body has too many signs.
        self.refused(house, TooMany, None, "make", "hal", "a", "b", "eve")
        self.refused(house, TooLong, None, "make", "hal", "a", "a", "eve")

    def test_at_the_bounds(self):
        house = House()
        house.host("hal", 0)
        house.put("odd", ODD)
        for at, name in enumerate(names(14)):
            house.put(name, (0, at))
        house.put("put", made([(0, "other", (), 0), (0, "end", [("put", (0, 50))], None)]))
        self.refused(house, TooMany, None, "make", "hal", "put", "aa", "eve")
        for name in names(14) + ["odd", "put"]:
            self.same(house.make("hal", "odd", name, "rag"), "rag")
        for name in names(14):
            house.bend("hal", "aa", name, ODD)
            house.make("hal", "aa", name, None)
        self.assertEqual(len(house.book().makings), 30)
        house.bend("hal", "ab", "ab", (99, 99))
        self.refused(house, TooMany, None, "make", "hal", "ab", "ab", "new")
        self.refused(house, BadName, None, "make", "hal", "ab", "ab", None)
        self.assertNotIn("new", house.names())
        # A making that is there already can be done once more.
        self.same(house.make("hal", "odd", "aa", None), "rag")
        house.bend("hal", "odd", "aa", ODD)
        self.refused(house, TooMany, None, "make", "hal", "odd", "aa", None)
        for at, name in enumerate(names(5, "s")):
            house.put(name, (99, at))
        self.refused(house, TooMany, None, "make", "hal", "ab", "ab", "new")

    def test_at_the_bound_of_scraps(self):
        house = filled()
        for at, name in enumerate(names(5, "s")):
            house.put(name, (99, at))
        self.refused(house, TooMany, None, "make", "hal", "odd", "src", "new")
        self.refused(house, BadName, "src", "make", "hal", "odd", "src", "src")
        house.bend("hal", "odd", "src", (99, 1))
        self.same(house.make("hal", "odd", "src", "new"), "sb")


class TestNotes(HouseCase):
    def test_notes(self):
        house = filled()
        self.same((house.book().notes, house.book().doubtful, house.book().lies),
                  ((("host", "hal"), ("right", "make", 0, 1)), (0,), 1))
        self.assertIsNone(house.note(("as", "src", "bin"), True))
        self.assertIsNone(house.note(("apart", "src", "make"), False))
        self.assertIsNone(house.allow(2))
        self.same(house.book().doubtful, (0, 2))
        self.assertIsNone(house.withdraw(1))
        self.same(house.book().notes, (("host", "hal"), ("as", "src", "bin"), ("apart", "src", "make")))
        self.same((house.book().doubtful, house.book().lies), ((0, 1), 2))
        house.withdraw(0)
        self.same((house.book().doubtful, house.book().lies), ((0,), 1))
        house.withdraw(1)
        house.withdraw(0)
        self.same((house.book().notes, house.book().lies), ((), 0))

    def test_wrong_notes(self):
        house = filled()
        for flag in [None, 0, 1, "", "True", (), [True], {}, nested(20), house.book()]:
            self.refused(house, BadFlag, flag, "note", ("as", "src", "bin"), flag)
            self.refused(house, BadFlag, flag, "note", None, flag)
        for note in NO_LISTS + [(), ("as", "src"), ["as", "src", "bin"], ("as", "src", "rag"), ("as", "src", "eve"),
                                ("host", "src"), ("host", "hal"), ("right", "make", 0, 1),
                                ("gives", "make", "src", "bin"), ("right", "make", 0, 5), ("host", None), nested(20)]:
            for doubt in (True, False):
                self.refused(house, BadBook, ("notes", 2), "note", note, doubt)

    def test_how_many(self):
        house = filled()
        for name in ("make", "src", "odd", "bin"):
            for other in ("make", "src"):
                house.note(("as", name, other), len(house.book().doubtful) < 8)
        self.same(house.book().doubtful, (0, 2, 3, 4, 5, 6, 7, 8))
        self.refused(house, BadBook, ("doubtful", -1), "note", ("as", "src", "bin"), True)
        self.refused(house, BadBook, ("notes", 10), "note", None, True)
        for source in range(5):
            for target in (1, 2):
                house.note(("right", "src", source, target), False)
        self.assertEqual(len(house.book().notes), 20)
        for note in (("as", "src", "bin"), None, ("host", "hal")):
            for doubt in (True, False):
                self.refused(house, BadBook, ("notes", -1), "note", note, doubt)
        house.allow(8)
        self.same(house.book().lies, 8)
        self.refused(house, BadBook, ("lies", -1), "allow", 9)

    def test_wrong_places_and_lies(self):
        house = filled()
        for at in [2, 3] + NO_SIGNS:
            self.refused(house, BadPlace, at, "withdraw", at)
        for lies in [2, 3] + NO_SIGNS:
            self.refused(house, BadBook, ("lies", -1), "allow", lies)
        self.refused(House(), BadPlace, 0, "withdraw", 0)
        house.allow(0)
        house.allow(0)
        self.same(house.book().lies, 0)


class TestUndo(HouseCase):
    def test_behind_each_kind_of_deed(self):
        house = filled()
        states = [state(house)]
        for deed in DEEDS:
            deed(house)
            states.append(state(house))
        # All of them changed something, but for the make of what was made already.
        self.assertEqual([at for at in range(len(DEEDS)) if states[at] == states[at + 1]], [6])
        for before in reversed(states[:-1]):
            self.assertIsNone(house.undo())
            self.assertEqual(state(house), before)

    def test_down_to_nothing(self):
        house = filled()
        for _ in range(10):
            house.undo()
        self.assertEqual(house.book(), House().book())
        self.same(house.names(), [])
        for _ in range(3):
            self.refused(house, NothingDone, None, "undo")
        house.put("a", (0, 0))
        house.undo()
        self.refused(house, NothingDone, None, "undo")
        self.refused(House(), NothingDone, None, "undo")

    def test_undone_deeds_are_gone(self):
        house = House()
        house.put("a", (0, 0))
        house.put("b", (0, 1))
        house.undo()
        house.put("c", (0, 1))
        house.undo()
        self.same(house.names(), ["a"])
        house.undo()
        self.same(house.names(), [])

    def test_what_was_undone_can_be_done_again(self):
        house = filled()
        for deed in DEEDS:
            deed(house)
            after = state(house)
            house.undo()
            deed(house)
            self.assertEqual(state(house), after)

    def test_refused_deeds_are_none(self):
        house = filled()
        house.host("joe", 3)
        for deed, arguments in (("put", ("src", (9,))), ("put", ("eve", None)), ("host", ("eve", 5)),
                                ("host", ("rag", 0)), ("bend", ("hal", "make", "src", None)),
                                ("make", ("hal", "make", "eve", "eva")),
                                ("make", ("hal", "odd", "src", None)), ("note", (None, True)), ("note", (None, None)),
                                ("withdraw", (9,)), ("allow", (9,)), ("row_of", ("eve",)), ("really", (None,)),
                                ("ask", (None,))):
            with self.assertRaises(MadeError):
                getattr(house, deed)(*arguments)
        self.assertIn("joe", house.names())
        house.undo()
        self.assertEqual(state(house), state(filled()))

    def test_what_only_asks_is_no_deed(self):
        house = filled()
        house.host("joe", 3)
        house.book(), house.names(), house.row_of("src"), house.ask(("as", "src", "bin")), house.world()
        house.really(("as", "src", "bin")), house.false_notes(), house.trying(lambda trial: None)
        house.undo()
        self.assertNotIn("joe", house.names())

    def test_a_make_puts_and_makes_in_one(self):
        house = filled()
        before = state(house)
        house.make("hal", "make", "make", "self")
        house.undo()
        self.assertEqual(state(house), before)

    def test_bent_anew(self):
        house = filled()
        house.bend("hal", "odd", "src", (5, 1))
        house.bend("hal", "odd", "src", BINARY)
        house.undo()
        self.same(house.trying(lambda trial: trial.make("hal", "odd", "src", "new")), "rag")
        house.undo()
        self.same(house.trying(lambda trial: trial.row_of(trial.make("hal", "odd", "src", "new"))), (50, 1))

    def test_by_lot(self):
        lot = random.Random(35)
        for _ in range(12):
            house = House()
            states = []
            for _ in range(60):
                before = (house.book(), house.names(), house.world())
                try:
                    undone = deed_by_lot(lot, house)
                except NothingDone:
                    self.assertEqual(states, [])
                except MadeError:
                    self.assertEqual((house.book(), house.names(), house.world()), before)
                else:
                    if undone:
                        self.assertEqual((house.book(), house.names(), house.world()), states.pop())
                    else:
                        states.append(before)


def deed_by_lot(lot, house):
    """Do something, that may be refused: whether it was an undo."""
    told = house.book()
    things = [name for name, _ in told.things] + ["a"]
    hosts = [name for name, _ in told.hosts] + ["a"]
    name = lot.choice("abcdefghijk")
    deed = lot.choice(("put", "put", "host", "bend", "make", "make", "note", "withdraw", "allow", "undo"))
    row = lot.choice((HONEST, TWIST, SOURCE, BINARY, ODD, (9, 9), (lot.randint(0, 9), 3)))
    making = (lot.choice(hosts), lot.choice(things), lot.choice(things))
    note = lot.choice((("as",) + making[1:], ("apart",) + making[1:], ("host", making[0]), ("right", making[1], 0, 1)))
    arguments = {"put": (name, row), "host": (name, lot.randint(0, 1)), "bend": making + (row,),
                 "make": making + (name,), "note": (note, lot.random() < 0.5), "withdraw": (lot.randint(0, 3),),
                 "allow": (lot.randint(0, 3),),
                 "undo": ()}
    getattr(house, deed)(*arguments[deed])
    return deed == "undo"


class TestTrying(HouseCase):
    def test_each_deed(self):
        house = filled()
        for deed in DEEDS:
            before = state(house)
            twin = filled_by(deed)
            told = house.trying(lambda trial: (deed(trial), state(trial)))
            self.assertEqual(told, twin)
            self.assertEqual(state(house), before)
            deed(house)

    def test_what_it_returns(self):
        house = filled()
        self.assertIsNone(house.trying(lambda trial: None))
        self.same(house.trying(lambda trial: trial.make("hal", "odd", "src", "tag")), "tag")
        self.assertNotIn("tag", house.names())
        self.assertIs(house.trying(lambda trial: trial), house)
        kept = [1, 2]
        self.assertIs(house.trying(lambda trial: kept), kept)

    def test_what_undo_takes_back(self):
        house = filled()
        house.host("jim", 3)
        house.trying(lambda trial: [deed(trial) for deed in DEEDS])
        house.undo()
        self.assertNotIn("jim", house.names())
        self.assertEqual(state(house), state(filled()))

    def test_undo_in_a_trial(self):
        house = filled()
        before = state(house)

        def undo_all(trial):
            for _ in range(10):
                trial.undo()
            trial.put("new", (4, 4))
            return trial.names()

        self.same(house.trying(undo_all), ["new"])
        self.assertEqual(state(house), before)
        for _ in range(10):
            house.undo()
        self.refused(house, NothingDone, None, "undo")

    def test_a_trial_in_a_trial(self):
        house = filled()
        before = state(house)

        def outer(trial):
            trial.put("one", (4, 1))
            inner_names = trial.trying(inner)
            trial.put("three", (4, 3))
            trial.undo()
            trial.undo()
            return inner_names, trial.names()

        def inner(trial):
            trial.put("two", (4, 2))
            trial.undo()
            trial.undo()
            trial.put("four", (4, 4))
            return trial.names()

        names_before = house.names()
        inner_names, outer_names = house.trying(outer)
        self.same(inner_names, sorted(names_before + ["four"]))
        self.same(outer_names, names_before)
        self.assertEqual(state(house), before)

    def test_errors_of_any_kind(self):
        house = filled()
        before = state(house)
        for error in (KeyError("eve"), ZeroDivisionError(), ValueError(1), TypeError(), StopIteration(),
                      AssertionError(), RuntimeError(), TooLong(), BadName("eve"), KeyboardInterrupt(), GeneratorExit(),
                      SystemExit()):
            def raising(trial):
                for deed in DEEDS:
                    deed(trial)
                raise error

            with self.assertRaises(type(error)) as caught:
                house.trying(raising)
            self.assertIs(caught.exception, error)
            self.assertEqual(state(house), before)
        self.wrong(BadName, "src", house.trying, lambda trial: (trial.host("joe", 3), trial.put("src", (4, 4))))
        self.wrong(NothingDone, None, house.trying, lambda trial: [trial.undo() for _ in range(11)])
        self.assertEqual(state(house), before)
        house.undo()
        self.same(house.book().lies, 0)

    def test_a_trial_that_raises_in_a_trial(self):
        house = filled()

        def outer(trial):
            trial.host("joe", 3)
            try:
                trial.trying(lambda inner: (inner.undo(), inner.put("src", ())))
            except BadName:
                return trial.names()

        self.assertIn("joe", house.trying(outer))
        self.assertNotIn("joe", house.names())


def filled_by(deed):
    """What the deed returns, and the state behind it, in another house that all deeds ahead of it made."""
    house = filled()
    for other in DEEDS[:DEEDS.index(deed)]:
        other(house)
    return deed(house), state(house)


class TestTold(HouseCase):
    def test_names(self):
        house = filled()
        self.same(house.names(), ["bin", "hal", "ida", "make", "odd", "rag", "src"])
        house.names().clear()
        self.assertEqual(len(house.names()), 7)

    def test_row_of(self):
        house = filled()
        for name, row in (("make", HONEST), ("src", SOURCE), ("bin", BINARY), ("rag", (5, 1))):
            self.same(house.row_of(name), row)
        for name in NO_NAMES + ["eve", "hal", "ida"]:
            self.refused(house, BadName, name, "row_of", name)

    def test_ask(self):
        house = filled()
        for claim in all_claims(house.book()):
            self.same(house.ask(claim), answer(house.book(), claim))
        self.same(house.ask(("right", "make", 0, 1)), "sure")
        self.same(house.ask(("as", "src", "bin")), "open")
        house.allow(0)
        self.same(house.ask(("as", "src", "bin")), "sure")
        house.note(("apart", "bin", "src"), False)
        self.same(house.ask(("as", "src", "bin")), "broken")

    def test_really(self):
        house = filled()
        house.put("twist", TWIST)
        house.make("hal", "odd", "src", "tag")
        for claim, wanted in ((("as", "src", "bin"), True), (("as", "src", "odd"), False),
                              (("apart", "src", "bin"), False), (("apart", "make", "twist"), True),
                              (("right", "make", 0, 1), True),
                              (("right", "twist", 0, 1), False), (("gives", "make", "src", "bin"), True),
                              (("gives", "twist", "src", "bin"), True), (("gives", "src", "src", "bin"), False),
                              (("gives", "odd", "bin", "tag"), True), (("as", "odd", "odd"), True)):
            self.assertIs(house.really(claim), wanted)
        # The rows alone count, not what a bent host said.
        house.bend("hal", "make", "twist", SOURCE)
        house.make("hal", "make", "twist", None)
        self.assertIs(house.really(("gives", "make", "twist", "src")), False)

    def test_no_claims(self):
        house = filled()
        for value in NO_LISTS + [(), ("as", "src"), ["as", "src", "bin"], ("as", "src", "rag"), ("as", "src", "eve"),
                                 ("host", "hal"), ("right", "make", 0, 5), ("right", "make", True, 1), nested(20),
                                 ("gives", "src", "rag", "bin"), ("gives", "src", "bin", "hal"),
                                 ("apart", None, "src")]:
            self.refused(house, BadClaim, value, "ask", value)
            self.refused(house, BadClaim, value, "really", value)
            self.refused(House(), BadClaim, value, "ask", value)
            self.refused(House(), BadClaim, value, "really", value)

    def test_false_notes(self):
        house = filled()
        self.same(house.false_notes(), [])
        house.put("twist", TWIST)
        for note in (("as", "src", "odd"), ("as", "bin", "src"), ("apart", "src", "bin"), ("apart", "src", "odd"),
                     ("right", "make", 1, 1), ("right", "twist", 0, 1), ("host", "ida")):
            house.note(note, True)
        self.same(house.false_notes(), [2, 4, 6, 7])
        # One of several makings is enough.
        house.make("hal", "odd", "src", "tag")
        house.bend("hal", "odd", "odd", (5, 1))
        house.make("hal", "odd", "odd", "new")
        self.same(house.false_notes(), [0, 2, 4, 6, 7])
        house.bend("ida", "bin", "src", run(BINARY, SOURCE))
        house.make("ida", "bin", "src", "same")
        self.same(house.false_notes(), [0, 2, 4, 6, 7])
        house.false_notes().clear()
        self.same(house.false_notes(), [0, 2, 4, 6, 7])
        house.withdraw(0)
        self.same(house.false_notes(), [1, 3, 5, 6])

    def test_a_host_that_said_what_is_too_long_to_write(self):
        house = filled()
        house.put("full", made([(0, "other", [("put", (99,) * 80)] * 50, 0)], 0, 0, 3))
        house.put("long", (0, 9, 9, 9, 9, 9))
        house.bend("hal", "full", "long", (99,) * 8000)
        house.make("hal", "full", "long", "said")
        self.same(house.false_notes(), [0])
        self.assertIs(house.really(("gives", "full", "long", "said")), False)

    def test_world(self):
        house = filled()
        rows = {"make": HONEST, "src": SOURCE, "odd": ODD, "rag": (5, 1), "bin": BINARY}
        self.assertEqual(house.world(), ((), rows))
        house.world()[1].clear()
        self.assertEqual(house.world(), ((), rows))
        self.assertIs(is_world(house.book(), house.world()), True)
        house.bend("hal", "odd", "src", BINARY)
        house.make("hal", "odd", "src", None)
        self.assertEqual(house.world(), ((0,), rows))
        self.assertIs(is_world(house.book(), house.world()), True)
        house.allow(0)
        self.assertIs(is_world(house.book(), house.world()), False)
        self.same(House().world(), ((), {}))

    def test_what_is_sure_is_really_so(self):
        lot = random.Random(36)
        words = []
        for _ in range(60):
            house = House()
            for _ in range(40):
                try:
                    deed_by_lot(lot, house)
                except MadeError:
                    pass
            false = house.false_notes()
            told = house.book()
            if set(false) <= set(told.doubtful) and len(false) <= told.lies:
                self.assertIs(is_world(told, house.world()), True)
                claims = all_claims(told)
                for claim in lot.sample(claims, min(15, len(claims))):
                    word = house.ask(claim)
                    words.append(word)
                    self.assertNotEqual(word, "broken")
                    if word != "open":
                        self.assertIs(house.really(claim), word == "sure")
        self.assertGreater(words.count("sure"), 20)
        self.assertGreater(words.count("never"), 20)

    def test_a_world_that_was_told(self):
        for told, world in ((ANSWERED, some_world(ANSWERED)), (full_book(), some_world(full_book())),
                            (ANSWERED, world_without(ANSWERED, ("as", "a", "f")))):
            house = House()
            for name in [name for name, _ in told.things] + list(told.scraps):
                house.put(name, world[1][name])
            for host, form in told.hosts:
                house.host(host, form)
            for host, name, thing, outcome in told.makings:
                if run(world[1][name], world[1][thing]) != world[1][outcome]:
                    house.bend(host, name, thing, world[1][outcome])
                self.same(house.make(host, name, thing, None), outcome)
            for at, note in enumerate(told.notes):
                house.note(note, at in told.doubtful)
            house.allow(told.lies)
            self.assertEqual(house.book(), told)
            self.assertEqual(house.world()[1], world[1])
            self.assertTrue(set(house.false_notes()) <= set(world[0]))
            self.assertIs(is_world(told, house.world()), True)

    def test_a_plan_that_is_done(self):
        lot = random.Random(37)
        done = 0
        while done < 25:
            told = planned_book(lot)
            if Closing(told, told.all_notes(), None).clashes():
                continue
            rows = some_world(told.with_lies(0))[1]
            for name, form in lot.sample([(name, form) for name, _ in told.things for form in range(5)], 5):
                planned = plan(told, told.all_notes(), name, form)
                if planned and len(told.things) + len(planned) <= 16:
                    self.done_for_real(told, rows, planned)
                    done += 1

    def done_for_real(self, told, rows, planned):
        house = House()
        for name in rows:
            house.put(name, rows[name])
        for host, form in told.hosts:
            house.host(host, form)
        for host, name, thing, outcome, form in planned:
            self.same(house.make(host, name, thing, outcome), outcome)
            self.same(house.book().form(outcome), form)
            self.assertIs(house.really(("as", thing, outcome)), True)
        self.same(house.book().things, grown(told, planned).things)
        self.same(house.book().makings, tuple(making[:4] for making in planned))

    def test_a_maker_that_makes_itself_anew(self):
        # What all of it is for: a twist that hides in a maker is found by what an honest one makes of the same thing.
        house = House()
        house.put("make", HONEST)
        house.put("twist", TWIST)
        house.host("hal", 0)
        house.host("ida", 1)
        house.make("hal", "twist", "make", "first")
        self.same(house.make("ida", "first", "make", None), "first")
        for note in (("host", "hal"), ("host", "ida"), ("right", "make", 0, 1)):
            house.note(note, False)
        house.note(("right", "twist", 0, 1), True)
        house.allow(1)
        for claim in (("as", "first", "make"), ("right", "twist", 0, 1)):
            self.same(house.ask(claim), "open")
            self.assertIs(house.really(claim), False)
        house.make("hal", "make", "make", "clean")
        self.same(house.ask(("as", "clean", "make")), "sure")
        for claim in (("as", "first", "make"), ("right", "twist", 0, 1)):
            self.same(house.ask(claim), "never")
        self.same(house.false_notes(), [3])
        self.assertIs(is_world(house.book(), house.world()), True)


if __name__ == "__main__":
    unittest.main()
