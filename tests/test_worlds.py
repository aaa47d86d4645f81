"""Point [21]."""

import unittest

from tests.cases import EMPTY_BOOK, NO_LISTS, Case, made, nested, sized
from tests.test_books import NO_BOOKS
from trulymade.books import Book
from trulymade.errors import BadBook, BadClaim, BadWorld
from trulymade.makers import maker
from trulymade.rows import thing_of
from trulymade.rules import body_for
from trulymade.running import run
from trulymade.worlds import holds, is_world

# A maker from form 0 to form 1, what it is run on and what it makes of it, and one that says a scrap.
MAKER = thing_of(0, 1, maker({0: (1, 20, {1: 21})}))
SOURCE = thing_of(0, 2, body_for(0, [(0, "other", [("plus", 1)], 0)]))
MADE = run(MAKER, SOURCE)
ODD = made([(0, "other", (), 0), (0, "end", [("put", (50, 1))], None)], 0, 0, 3)
ROWS = {"make": MAKER, "src": SOURCE, "bin": MADE, "odd": ODD, "rag": (50, 1)}

THINGS = (("make", 0), ("src", 0), ("bin", 1), ("odd", 0))
MAKINGS = (("hal", "make", "src", "bin"), ("hal", "odd", "src", "rag"))
NOTES = (("host", "hal"), ("right", "make", 0, 1), ("as", "src", "bin"), ("apart", "make", "src"))


def book(things=THINGS, scraps=("rag",), makings=MAKINGS, notes=NOTES, doubtful=(), lies=0):
    return Book(things, scraps, (("hal", 0), ("ida", 1)), makings, notes, doubtful, lies)


def rows(**changes):
    return {**ROWS, **changes}


class TestRows(Case):
    def world(self, wanted, told, thing):
        before = repr(thing)
        self.assertIs(is_world(told, thing), wanted)
        self.assertEqual(repr(thing), before)

    def test_a_world(self):
        self.world(True, book(), ((), ROWS))
        self.world(True, book(), ((), {name: ROWS[name] for name in reversed(ROWS)}))
        self.world(True, EMPTY_BOOK, ((), {}))

    def test_no_world_at_all(self):
        for value in NO_LISTS + [(), ((),), ((), ROWS, ()), [(), ROWS], ((), [ROWS]), ((), None), (None, ROWS),
                                 ([], ROWS), ({}, ROWS), (0, ROWS), ((), tuple(ROWS.items())), ((), list(ROWS)),
                                 (ROWS, ()), ((), {}), (((),), ROWS), nested(20), ("", ROWS), (False, ROWS)]:
            self.world(False, book(), value)
        self.world(False, EMPTY_BOOK, ((), ROWS))
        self.world(False, EMPTY_BOOK, ())

    def test_names(self):
        for name in ROWS:
            self.world(False, book(), ((), {other: ROWS[other] for other in ROWS if other != name}))
            fewer = {other: ROWS[other] for other in ROWS if other != name}
            self.world(False, book(), ((), {**fewer, "eve": ROWS[name]}))
        for name in ("eve", "hal", "ida", "", 0, None, ("rag",)):
            self.world(False, book(), ((), {**ROWS, name: (51,)}))
        self.world(True, book(scraps=("rag", "eve")), ((), rows(eve=(51,))))

    def test_rows_are_tuples_of_signs(self):
        for name in ROWS:
            self.world(False, book(), ((), rows(**{name: list(ROWS[name])})))
            for value in NO_LISTS + [ROWS[name] + (100,), ROWS[name] + (True,), ROWS[name] + (None,), (ROWS[name],),
                                     ROWS[name][:1] + (None,) + ROWS[name][2:], ROWS[name] + ([],)]:
                self.world(False, book(notes=(), makings=()), ((), rows(**{name: value})))

    def test_things_of_their_forms(self):
        bare = book(notes=(), makings=())
        self.world(True, bare, ((), rows(src=(0, 50))))
        for value in ((1, 50), (4, 50, 3), (5, 50), (), (0,), (99, 1, 1)):
            self.world(False, bare, ((), rows(src=value)))
        for value in ((0, 50), (2, 50, 3), (5, 50), (), (1,)):
            self.world(False, bare, ((), rows(bin=value)))

    def test_scraps_are_scraps(self):
        bare = book(notes=(), makings=())
        for value in ((), (0,), (1,), (4,), (5,), (5, 1), (99,) * 8000):
            self.world(True, bare, ((), rows(rag=value)))
        for value in ((0, 50), (4, 1, 1), (1, 50), (99,) * 8001, (99,) * 20000):
            self.world(False, bare, ((), rows(rag=value)))

    def test_unlike_rows(self):
        bare = book(notes=(), makings=(), scraps=("rag", "tag"))
        self.world(True, bare, ((), rows(tag=())))
        self.world(False, bare, ((), rows(tag=(50, 1))))
        self.world(False, bare, ((), rows(tag=(), src=MAKER)))
        self.world(True, bare, ((), rows(tag=(), src=MAKER + (99,))))
        # Alike things with unlike rows are let.
        self.world(True, bare, ((), rows(tag=(), src=(0, 77) + MAKER[2:])))

    def test_small_things(self):
        bare = book(notes=(), makings=())
        self.world(True, bare, ((), rows(src=sized([], 8000))))
        self.world(False, bare, ((), rows(src=sized([], 8001))))
        self.world(True, bare, ((), rows(src=made([(0, 1, (), 0)] * 200))))
        self.world(False, bare, ((), rows(src=made([(0, 1, (), 0)] * 201))))
        self.world(True, bare, ((), rows(src=sized([(0, 1, [("own", 1, 1)] * 4, 0)], 5000))))
        self.world(False, bare, ((), rows(src=sized([(0, 1, [("own", 1, 1)] * 4, 0)], 5001))))

    def test_rows_are_looked_at_first(self):
        # Nothing is asked of notes and makings where a thing is not small: no error either.
        large = sized([(0, 1, [("own", 1, 1)] * 9, 0)], 19000)
        self.world(False, book(), ((), rows(src=large)))
        self.world(False, book(), ((), rows(bin=(1, 1) + large[2:])))
        self.world(False, book(), ((), rows(src=None)))
        self.world(False, book(), ((), rows(rag=(0, 0))))


class TestNotes(Case):
    def world(self, wanted, told, false, **changes):
        self.assertIs(is_world(told, (false, rows(**changes))), wanted)

    def test_as(self):
        note = ("as", "src", "odd")
        self.world(False, book(notes=(note,)), ())
        self.world(True, book(notes=(note,)), (), src=ODD + (99,), odd=(0, 7) + ODD[2:] + (3,))
        self.world(True, book(notes=(("as", "src", "src"),)), ())

    def test_apart(self):
        self.world(True, book(notes=(("apart", "src", "odd"),)), ())
        self.world(False, book(notes=(("apart", "src", "bin"),)), ())
        self.world(False, book(notes=(("apart", "src", "src"),)), ())

    def test_right(self):
        self.world(True, book(notes=(("right", "make", 0, 1),)), ())
        self.world(False, book(notes=(("right", "make", 0, 0),)), ())
        self.world(False, book(notes=(("right", "make", 1, 1),)), ())
        self.world(False, book(notes=(("right", "odd", 0, 1),)), ())
        self.world(True, book(notes=(("right", "odd", 4, 2),)), (), odd=thing_of(0, 5, maker({4: (2, 0, {})})))

    def test_makings(self):
        self.world(True, book(), ())
        other = thing_of(1, 9, SOURCE[2:])
        self.world(False, book(), (), bin=other)
        self.world(False, book(), (), rag=(50, 2))
        self.world(False, book(), (), rag=())
        self.world(False, book(makings=MAKINGS + (("hal", "make", "make", "bin"),)), ())
        self.world(False, book(makings=MAKINGS + (("hal", "make", "src", "rag"),)), ())
        self.world(True, book(makings=MAKINGS + (("hal", "make", "bin", "tag"),), scraps=("rag", "tag")), (), tag=())

    def test_at_a_host_without_a_note(self):
        wrong = MAKINGS + (("hal", "src", "src", "src"), ("ida", "bin", "src", "src"))
        self.world(False, book(makings=wrong), ())
        self.world(True, book(makings=wrong, notes=NOTES[1:]), ())
        self.world(False, book(makings=wrong, notes=NOTES[1:] + (("host", "ida"),)), ())
        self.world(True, book(makings=wrong[:2] + wrong[3:], notes=NOTES), ())
        self.world(False, book(makings=wrong[:2] + wrong[3:], notes=NOTES + (("host", "ida"),)), ())

    def test_makings_that_would_write_too_much(self):
        doubling = sized([(0, "other", [("own", 1, 1)] * 2, 0)], 8000)
        told = book(notes=NOTES[:1], makings=(("hal", "odd", "src", "rag"),))
        self.world(False, told, (), odd=doubling, src=(0, 9))
        self.world(False, told, (), odd=doubling, src=(0, 9) + (0,) * 50)
        exact = made([(0, "other", [("put", (5,) * 80)] * 50, 0)], 0, 0, 3)
        self.world(True, told, (), odd=exact, src=(0, 9), rag=(5,) * 8000)
        self.world(False, told, (), odd=exact, src=(0, 9, 0, 0, 0, 0), rag=(5,) * 8000)

    def test_false_notes(self):
        wrong = NOTES + (("as", "make", "odd"),)
        self.world(False, book(notes=wrong), ())
        self.world(False, book(notes=wrong, doubtful=(4,)), ())
        self.world(False, book(notes=wrong, doubtful=(4,)), (4,))
        self.world(False, book(notes=wrong, doubtful=(4,), lies=1), ())
        self.world(True, book(notes=wrong, doubtful=(4,), lies=1), (4,))
        self.world(False, book(notes=wrong, doubtful=(3, 4), lies=1), (3,))
        self.world(False, book(notes=wrong, doubtful=(3, 4), lies=1), (3, 4))
        # Of a false note nothing is asked: it may hold.
        self.world(True, book(notes=wrong, doubtful=(3, 4), lies=2), (3, 4))
        self.world(True, book(doubtful=(0, 1, 2, 3), lies=4), (0, 1, 2, 3))
        self.world(True, book(doubtful=(0, 1, 2, 3), lies=4), ())
        self.world(True, book(doubtful=(2, 3), lies=1), (2,))
        for false in ((0, 2), (2, 2), (3, 2), (0,), (4,), (-1,), (True,), (None,), ("2",), ((2,),), [2], (2, 3, 3),
                      {2: 3}, 2, None, (1,)):
            self.world(False, book(doubtful=(2, 3), lies=2), false)

    def test_false_flags_are_no_indexes(self):
        self.world(True, book(doubtful=(0, 1), lies=2), (0, 1))
        self.world(False, book(doubtful=(0, 1), lies=2), (False, 1))
        self.world(False, book(doubtful=(0, 1), lies=2), (0, True))
        self.world(False, book(doubtful=(0, 1), lies=2), (True,))

    def test_a_false_host(self):
        wrong = MAKINGS + (("hal", "src", "src", "src"),)
        told = book(makings=wrong, doubtful=(0,), lies=1)
        self.world(True, told, (0,))
        self.world(False, told, ())
        told = book(makings=wrong, doubtful=(0, 1), lies=1)
        self.world(False, told, (1,))

    def test_no_book(self):
        for value in NO_BOOKS:
            self.wrong(BadBook, value, is_world, value, ((), {}))
            self.wrong(BadBook, value, is_world, value, None)


class TestHolds(Case):
    def held(self, wanted, *claims):
        for claim in claims:
            self.assertIs(holds(book(), ((), ROWS), claim), wanted)

    def test_as_and_apart(self):
        for a in ("make", "src", "bin", "odd"):
            for b in ("make", "src", "bin", "odd"):
                alike = a == b or {a, b} == {"src", "bin"}
                self.held(alike, ("as", a, b))
                self.held(not alike, ("apart", a, b))

    def test_right(self):
        for source in range(5):
            for target in range(5):
                self.held((source, target) == (0, 1), ("right", "make", source, target))
                self.held(False, ("right", "odd", source, target))

    def test_gives(self):
        self.held(True, ("gives", "make", "src", "bin"), ("gives", "odd", "src", "rag"), ("gives", "odd", "odd", "rag"),
                  ("gives", "odd", "bin", "rag"))
        self.held(False, ("gives", "make", "src", "src"), ("gives", "make", "src", "rag"),
                  ("gives", "make", "bin", "rag"), ("gives", "make", "odd", "bin"), ("gives", "src", "src", "bin"), ("gives", "odd", "src", "odd"))

    def test_gives_what_is_too_long(self):
        doubling = made([(0, "other", [("put", (5,) * 80)] * 50, 0)], 0, 0, 3)
        told = book(notes=(), makings=())
        for many, wanted in ((0, True), (1, False), (3, False), (4, False), (50, False)):
            read = (0, 9) + (0,) * many
            world = ((), rows(odd=doubling, src=read, rag=(5,) * 8000))
            self.assertIs(holds(told, world, ("gives", "odd", "src", "rag")), wanted)

    def test_in_a_world_with_false_notes(self):
        told = book(notes=NOTES + (("as", "make", "odd"),), doubtful=(4,), lies=1)
        self.assertIs(holds(told, ((4,), ROWS), ("as", "make", "odd")), False)
        self.assertIs(holds(told, ((4,), ROWS), ("apart", "make", "odd")), True)
        self.wrong(BadWorld, ((), ROWS), holds, told, ((), ROWS), ("as", "make", "odd"))

    def test_wrong_arguments(self):
        good = ((), ROWS)
        for value in NO_BOOKS:
            self.wrong(BadBook, value, holds, value, good, ("as", "src", "bin"))
            self.wrong(BadBook, value, holds, value, None, None)
        for value in NO_LISTS + [(), ROWS, [(), ROWS], ((), {}), ((0,), ROWS), ((), rows(rag=(0, 0))), nested(20)]:
            self.wrong(BadWorld, value, holds, book(), value, ("as", "src", "bin"))
            self.wrong(BadWorld, value, holds, book(), value, None)
        for value in NO_LISTS + [(), ("as", "src"), ["as", "src", "bin"], ("as", "src", "rag"), ("host", "hal"),
                                 ("right", "src", 0, 5), ("gives", "src", "rag", "bin"), ("as", "src", "eve"), good,
                                 ("apart", None, "src"), nested(20)]:
            self.wrong(BadClaim, value, holds, book(), good, value)


if __name__ == "__main__":
    unittest.main()
