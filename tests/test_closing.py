"""Points [23] and [24]."""

import random
import unittest

from tests.cases import EMPTY_BOOK, NO_LISTS, NO_NAMES, Case, nested
from tests.samples import all_claims, book, random_book
from tests.slow import facts
from tests.test_books import NO_BOOKS, NO_INDEXES
from trulymade.books import Book
from trulymade.closing import Closing
from trulymade.errors import BadBook, BadClaim, BadKept, BadName

THINGS = [("a", 0), ("b", 0), ("c", 0), ("d", 1), ("e", 1), ("f", 2)]


def told(makings=(), notes=(), doubtful=()):
    """A book about six things, two scraps and two hosts, with these makings and notes."""
    return Book(THINGS, ["r", "s"], [("h", 0), ("i", 1)], makings, notes, doubtful, 0)


def closed(makings=(), notes=(), said=None, kept=None):
    """The closing of such a book for all its notes, and both hosts trusted, or for some notes alone."""
    made = told(makings, list(notes) + [("host", "h"), ("host", "i")])
    return Closing(made, made.all_notes() if kept is None else kept, said)


class TestFacts(Case):
    def test_nothing_told(self):
        closing = closed()
        self.same(closing.classes(), [("a",), ("b",), ("c",), ("d",), ("e",), ("f",)])
        self.assertIs(closing.clashes(), False)
        for a, _ in THINGS:
            self.same(closing.ways(a), [])
            for x, _ in THINGS:
                self.assertIs(closing.same(a, x), a == x)
                self.same(closing.outcomes(a, x), [])
                self.assertIs(closing.has(("as", a, x)), a == x)

    def test_same(self):
        closing = closed(notes=[("as", "a", "b"), ("as", "d", "b"), ("as", "f", "e")])
        self.same(closing.classes(), [("a", "b", "d"), ("c",), ("e", "f")])
        for one in ("a", "b", "d"):
            for other in ("a", "b", "d"):
                self.assertIs(closing.same(one, other), True)
                self.assertIs(closing.has(("as", one, other)), True)
            for other in ("c", "e", "f"):
                self.assertIs(closing.same(one, other), False)
                self.assertIs(closing.same(other, one), False)
        self.assertIs(closing.clashes(), False)
        self.same(closed(notes=[("as", "f", "e"), ("as", "c", "f"), ("as", "a", "c"), ("as", "b", "e")]).classes(),
                  [("a", "b", "c", "e", "f"), ("d",)])
        self.same(closed(notes=[("as", "a", "a"), ("as", "b", "a"), ("as", "a", "b")]).classes()[0], ("a", "b"))

    def test_makings_count_at_trusted_hosts_alone(self):
        makings = [("h", "a", "b", "c"), ("i", "d", "b", "r")]
        closing = closed(makings)
        self.same((closing.outcomes("a", "b"), closing.outcomes("d", "b")), (["c"], ["r"]))
        closing = Closing(told(makings, [("host", "i")]), (0,), None)
        self.same((closing.outcomes("a", "b"), closing.outcomes("d", "b")), ([], ["r"]))
        closing = Closing(told(makings, [("host", "i"), ("host", "h")]), (1,), None)
        self.same((closing.outcomes("a", "b"), closing.outcomes("d", "b")), (["c"], []))
        closing = Closing(told(makings, [("host", "i"), ("host", "h")]), (), None)
        self.same((closing.outcomes("a", "b"), closing.outcomes("d", "b")), ([], []))

    def test_outcomes_and_ways_count_for_the_class(self):
        closing = closed([("h", "a", "f", "r"), ("h", "b", "a", "s")], [("as", "a", "b"), ("right", "b", 3, 1),
                                                                         ("right", "a", 3, 1), ("right", "a", 1, 4)])
        for name in ("a", "b"):
            self.same(closing.outcomes(name, "f"), ["r"])
            self.same(closing.outcomes(name, "a"), ["s"])
            # What is read does not count for its class.
            self.same(closing.outcomes(name, "b"), [])
            self.same(closing.ways(name), [(1, 4), (3, 1)])
        self.same(closing.ways("c"), [])
        self.assertIs(closing.clashes(), False)

    def test_what_is_led_is_the_same(self):
        closing = closed([("h", "a", "b", "d")], [("right", "a", 0, 1)])
        self.assertIs(closing.same("b", "d"), True)
        self.same(closing.classes(), [("a",), ("b", "d"), ("c",), ("e",), ("f",)])
        # Not for a thing of another form, not for an outcome of an unlike maker.
        self.assertIs(closed([("h", "a", "d", "e")], [("right", "a", 0, 1)]).same("d", "e"), False)
        self.assertIs(closed([("h", "b", "c", "d")], [("right", "a", 0, 1)]).same("c", "d"), False)
        self.assertIs(closed([("h", "a", "b", "d")], [("apart", "a", "d")]).same("b", "d"), False)
        # A maker can read and lead itself.
        self.assertIs(closed([("h", "a", "a", "a")], [("right", "a", 0, 0)]).clashes(), False)

    def test_a_chain_of_several_rules(self):
        # b is made by a right one, so it is right itself, and what it makes is the same again.
        makings = [("h", "a", "c", "d"), ("i", "d", "b", "e"), ("h", "b", "c", "f")]
        notes = [("right", "a", 0, 1), ("right", "c", 0, 1), ("as", "b", "f"), ("right", "b", 0, 2)]
        closing = closed(makings, notes)
        self.same(closing.classes(), [("a",), ("b", "c", "d", "e", "f")])
        self.same(closing.ways("d"), [(0, 1), (0, 2)])
        self.assertIs(closing.clashes(), True)
        closing = closed(makings, notes[:3])
        self.same(closing.classes(), [("a",), ("b", "e", "f"), ("c", "d")])
        self.same(closing.ways("d"), [(0, 1)])
        self.same(closing.outcomes("c", "b"), ["e"])
        self.assertIs(closing.clashes(), False)

    def test_joining_makes_more_join(self):
        makings = [("h", "a", "c", "d"), ("i", "e", "a", "f")]
        notes = [("right", "a", 0, 1), ("as", "c", "b"), ("as", "d", "e"), ("right", "b", 0, 2)]
        closing = closed(makings, notes)
        self.same(closing.classes(), [("a", "f"), ("b", "c", "d", "e")])
        self.same(closed(makings, notes[:3]).classes(), [("a",), ("b", "c", "d", "e"), ("f",)])
        self.same(closed(makings, notes[1:]).classes(), [("a",), ("b", "c"), ("d", "e"), ("f",)])

    def test_forms_of_the_outcome(self):
        # An outcome of another form is no same thing, but a clash.
        closing = closed([("h", "a", "b", "f")], [("right", "a", 0, 1)])
        self.assertIs(closing.same("b", "f"), False)
        self.assertIs(closing.clashes(), True)

    def test_several_outcomes_are_ascending(self):
        closing = closed([("h", "a", "b", "s"), ("h", "a", "b", "d"), ("h", "c", "b", "a")], [("as", "a", "c")])
        self.same(closing.outcomes("a", "b"), ["a", "d", "s"])
        self.same(closing.outcomes("c", "b"), ["a", "d", "s"])
        self.assertIs(closing.clashes(), True)
        closing = closed(notes=[("right", "b", 4, 0), ("right", "a", 2, 3), ("right", "a", 2, 1), ("right", "b", 0, 4),
                                ("as", "a", "b")])
        self.same(closing.ways("b"), [(0, 4), (2, 1), (2, 3), (4, 0)])

    def test_said(self):
        self.assertIs(closed(said=("as", "a", "f")).same("f", "a"), True)
        self.same(closed(said=("right", "a", 4, 2)).ways("a"), [(4, 2)])
        self.same(closed(said=("gives", "a", "b", "r")).outcomes("a", "b"), ["r"])
        self.same(closed(said=("apart", "a", "b")).classes(), closed().classes())
        closing = closed([("h", "a", "b", "d")], said=("right", "a", 0, 1))
        self.assertIs(closing.same("b", "d"), True)
        closing = closed(notes=[("right", "a", 0, 1)], said=("gives", "a", "b", "d"))
        self.assertIs(closing.same("b", "d"), True)
        # What makers say counts without a host if it is said.
        self.same(closed(said=("gives", "a", "b", "d"), kept=()).outcomes("a", "b"), ["d"])

    def test_kept_notes_alone_count(self):
        notes = [("as", "a", "b"), ("as", "b", "c"), ("right", "a", 0, 1), ("right", "a", 0, 2), ("apart", "a", "b")]
        self.same(closed(notes=notes, kept=[]).classes()[0], ("a",))
        self.same(closed(notes=notes, kept=[1]).classes()[1], ("b", "c"))
        self.same(closed(notes=notes, kept=(0, 1)).classes()[0], ("a", "b", "c"))
        self.assertIs(closed(notes=notes, kept=(0, 1, 2)).clashes(), False)
        self.assertIs(closed(notes=notes, kept=(0, 4)).clashes(), True)
        self.assertIs(closed(notes=notes, kept=(1, 4)).clashes(), False)
        self.assertIs(closed(notes=notes, kept=[2, 3]).clashes(), True)

    def test_new_lists(self):
        closing = closed([("h", "a", "b", "r")], [("right", "a", 0, 1)])
        for function, arguments in ((closing.ways, ("a",)), (closing.outcomes, ("a", "b")), (closing.classes, ())):
            first = function(*arguments)
            wanted = list(first)
            first.clear()
            self.same(function(*arguments), wanted)

    def test_kept_is_copied(self):
        made = told((), [("as", "a", "b"), ("as", "b", "c")])
        kept = [0, 1]
        closing = Closing(made, kept, ("right", "a", 0, 1))
        kept.clear()
        self.same(closing.classes()[0], ("a", "b", "c"))
        self.assertIs(closing.has(("apart", "a", "c")), False)

    def test_what_a_slow_closing_tells(self):
        lot = random.Random(23)
        clashes = 0
        for _ in range(400):
            made = random_book(lot)
            kept = sorted(lot.sample(made.all_notes(), lot.randint(0, len(made.notes))))
            claims = all_claims(made)
            said = lot.choice((None, lot.choice(claims)))
            closing = Closing(made, kept, said)
            found, clash = facts(made, kept, said)
            self.assertIs(closing.clashes(), clash)
            clashes += clash
            names = [name for name, _ in made.things]
            self.same(closing.classes(), sorted({tuple(sorted(b for b in names if ("as", a, b) in found))
                                                 for a in names}))
            for a in names:
                self.same(closing.ways(a), sorted(fact[2:] for fact in found if fact[:2] == ("right", a)))
                for b in names:
                    self.assertIs(closing.same(a, b), ("as", a, b) in found)
                    self.same(closing.outcomes(a, b), sorted(f[3] for f in found if f[:3] == ("gives", a, b)))
            for claim in lot.sample(claims, min(20, len(claims))):
                wanted = facts(made, kept, ("as",) + claim[1:])[1] if claim[0] == "apart" else claim in found
                self.assertIs(closing.has(claim), wanted)
        self.assertTrue(100 < clashes < 300)


class TestClashes(Case):
    def clash(self, wanted, makings=(), notes=(), said=None):
        self.assertIs(closed(makings, notes, said).clashes(), wanted)

    def test_two_outcomes(self):
        self.clash(True, [("h", "a", "b", "r"), ("h", "a", "b", "s")])
        self.clash(True, [("h", "a", "b", "c"), ("h", "a", "b", "s")])
        self.clash(True, [("h", "a", "b", "a"), ("h", "a", "b", "b")])
        self.clash(False, [("h", "a", "b", "r"), ("h", "a", "c", "s")])
        self.clash(False, [("h", "a", "b", "r"), ("h", "b", "b", "s")])
        self.clash(True, [("h", "a", "b", "r"), ("i", "d", "b", "s")], [("as", "a", "d")])
        self.clash(False, [("h", "a", "b", "r"), ("i", "d", "b", "r")], [("as", "a", "d")])
        self.clash(True, [("h", "a", "b", "r")], [], ("gives", "a", "b", "s"))
        self.clash(False, [("h", "a", "b", "r")], [], ("gives", "a", "b", "r"))
        # Things that are the same have unlike rows: their names are unlike.
        self.clash(True, [("h", "a", "b", "b"), ("h", "a", "b", "c")], [("as", "b", "c")])
        self.clash(False, [("h", "a", "b", "r"), ("h", "a", "c", "s")], [("as", "b", "c")])

    def test_unfit(self):
        self.clash(True, [("h", "a", "b", "r")], [("right", "a", 0, 1)])
        self.clash(True, [("h", "a", "b", "c")], [("right", "a", 0, 1)])
        self.clash(False, [("h", "a", "b", "c")], [("right", "a", 0, 0)])
        self.clash(False, [("h", "a", "b", "r")], [("right", "a", 1, 1)])
        self.clash(True, [("i", "e", "f", "r")], [("right", "c", 2, 2), ("as", "e", "c")])
        self.clash(True, [("h", "a", "b", "d")], [], ("right", "a", 0, 4))
        self.clash(False, [("h", "a", "b", "d")], [], ("right", "a", 0, 1))

    def test_two_ways(self):
        self.clash(True, (), [("right", "a", 0, 1), ("right", "a", 0, 2)])
        self.clash(False, (), [("right", "a", 0, 1), ("right", "a", 1, 0), ("right", "b", 0, 2)])
        self.clash(True, (), [("right", "a", 0, 1), ("right", "b", 0, 2), ("as", "b", "a")])
        self.clash(True, (), [("right", "a", 0, 1)], ("right", "a", 0, 0))

    def test_against(self):
        self.clash(True, (), [("apart", "a", "b"), ("as", "a", "b")])
        self.clash(True, (), [("apart", "a", "b"), ("as", "b", "a")])
        self.clash(True, (), [("apart", "a", "a")])
        self.clash(True, (), [("apart", "a", "c"), ("as", "a", "b"), ("as", "c", "b")])
        self.clash(False, (), [("apart", "a", "c"), ("as", "a", "b"), ("as", "c", "d")])
        self.clash(True, [("h", "a", "b", "d")], [("right", "a", 0, 1), ("apart", "d", "b")])
        self.clash(True, (), [("as", "a", "b")], ("apart", "b", "a"))
        self.clash(True, (), [], ("apart", "a", "a"))
        self.clash(False, (), [], ("apart", "a", "b"))
        self.clash(True, (), [("apart", "a", "b")], ("as", "b", "a"))

    def test_facts_of_what_clashes(self):
        closing = closed([("h", "a", "b", "r"), ("h", "a", "b", "d")], [("right", "a", 0, 1), ("as", "d", "c")])
        self.assertIs(closing.clashes(), True)
        self.same(closing.classes(), [("a",), ("b", "c", "d"), ("e",), ("f",)])
        self.assertIs(closing.has(("as", "a", "b")), False)


class TestHas(Case):
    def test_each_kind(self):
        closing = closed([("h", "a", "b", "d")], [("right", "a", 0, 1), ("as", "a", "c")])
        for claim in (("as", "b", "d"), ("as", "d", "b"), ("as", "f", "f"), ("as", "c", "a"), ("right", "c", 0, 1),
                      ("gives", "c", "b", "d"), ("gives", "a", "b", "d")):
            self.assertIs(closing.has(claim), True)
        for claim in (("as", "a", "b"), ("right", "a", 1, 0), ("right", "b", 0, 1), ("gives", "a", "d", "d"),
                      ("gives", "a", "b", "b"), ("gives", "b", "a", "d"), ("apart", "a", "b"), ("apart", "a", "a")):
            self.assertIs(closing.has(claim), False)

    def test_apart(self):
        closing = closed(notes=[("apart", "a", "b"), ("as", "c", "b"), ("right", "e", 0, 1), ("right", "f", 0, 2)])
        for pair in (("a", "b"), ("b", "a"), ("a", "c"), ("c", "a"), ("e", "f"), ("f", "e")):
            self.assertIs(closing.has(("apart", *pair)), True)
        for pair in (("b", "c"), ("a", "d"), ("a", "e"), ("a", "a"), ("e", "e")):
            self.assertIs(closing.has(("apart", *pair)), False)
        closing = closed([("h", "a", "c", "r"), ("h", "b", "c", "s")])
        self.assertIs(closing.has(("apart", "a", "b")), True)
        self.assertIs(closing.has(("apart", "a", "c")), False)

    def test_apart_leaves_out_what_was_said(self):
        # With the said way they would clash; it does not count for apart.
        closing = closed(notes=[("right", "e", 0, 1)], said=("right", "f", 0, 2))
        self.assertIs(closing.clashes(), False)
        self.assertIs(closing.has(("apart", "e", "f")), False)
        self.assertIs(closing.has(("right", "f", 0, 2)), True)
        closing = closed(said=("apart", "a", "b"))
        self.assertIs(closing.has(("apart", "a", "b")), False)
        closing = closed(notes=[("apart", "a", "b")], said=("as", "a", "b"))
        self.assertIs(closing.clashes(), True)
        self.assertIs(closing.has(("apart", "c", "d")), False)
        self.assertIs(closing.has(("apart", "b", "a")), True)

    def test_apart_in_what_clashes(self):
        closing = closed(notes=[("right", "e", 0, 1), ("right", "e", 0, 2)])
        self.assertIs(closing.has(("apart", "c", "d")), True)
        self.assertIs(closing.has(("as", "c", "d")), False)


class TestWrong(Case):
    def test_no_book(self):
        for value in NO_BOOKS:
            self.wrong(BadBook, value, Closing, value, (), None)
            self.wrong(BadBook, value, Closing, value, None, 5)

    def test_kept(self):
        made = book()
        for value in NO_LISTS + [(6,), (-1,), (0, 0), [1, 0], (0, 2, 1), (0, 6), [10 ** 400], ((0,),)]:
            self.wrong(BadKept, value, Closing, made, value, None)
            self.wrong(BadKept, value, Closing, made, value, ("as",))
        for value in NO_INDEXES:
            self.wrong(BadKept, (0, value), Closing, made, (0, value), None)
            self.wrong(BadKept, [value], Closing, made, [value], None)
        self.wrong(BadKept, (0,), Closing, EMPTY_BOOK, (0,), None)
        self.same(Closing(EMPTY_BOOK, [], None).classes(), [])
        self.assertIs(Closing(EMPTY_BOOK, (), None).clashes(), False)
        for value in ((), [], (0,), [5], (0, 1, 2, 3, 4, 5), [1, 4]):
            self.assertIn(Closing(made, value, None).clashes(), (True, False))

    def no_claims(self):
        return [value for value in NO_LISTS if value is not None] + [
            (), ("as",), ["as", "ann", "bob"], ("as", "ann", "rag"), ("host", "hal"), ("gives", "ann", "rag", "bob"),
            ("right", "ann", 0, 5), ("right", "ann", True, 1), ("as", None, "ann"), ("as", ["ann"], "ann"),
            ("gives", "ann", "bob", "hal"), ("clash",), nested(20)]

    def test_said(self):
        for value in self.no_claims():
            self.wrong(BadClaim, value, Closing, book(), (0,), value)

    def test_has(self):
        closing = Closing(book(), (0, 1), None)
        for value in self.no_claims() + [None]:
            self.wrong(BadClaim, value, closing.has, value)

    def test_names(self):
        closing = Closing(book(), (), None)
        for name in NO_NAMES + ["eve", "rag", "hal", "host"]:
            self.wrong(BadName, name, closing.same, name, "ann")
            self.wrong(BadName, name, closing.same, "ann", name)
            self.wrong(BadName, name, closing.same, name, None)
            self.wrong(BadName, name, closing.ways, name)
            self.wrong(BadName, name, closing.outcomes, name, "ann")
            self.wrong(BadName, name, closing.outcomes, "ann", name)
            self.wrong(BadName, name, closing.outcomes, name, 5)


if __name__ == "__main__":
    unittest.main()
