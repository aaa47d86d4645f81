"""Point [19]."""

import random
import unittest

from tests.cases import EMPTY_BOOK, NO_LISTS, Case
from tests.samples import PARTS, book, names, parts_of, random_book
from tests.test_books import NO_BOOKS
from trulymade.books import Book
from trulymade.booktexts import read_book, write_book
from trulymade.errors import BadBook, BadText

TEXT = """thing ann 0
thing bob 0
thing cat 1
thing dan 2
scrap rag
scrap tag
host hal 0
host ida 1
made hal ann bob cat
made hal bob dan rag
made ida cat cat cat
doubt as ann bob
sure apart ann cat
sure right ann 0 1
doubt host hal
doubt right dan 4 0
sure host ida
lies 2"""
ROWS = TEXT.split("\n")
# Which rows of the text are of one kind.
KINDS = [(0, 4), (4, 6), (6, 8), (8, 11), (11, 17), (17, 18)]

# Rows that are none, whatever stands around them.
NO_ROWS = [
    "", " ", "thing", "scrap", "host", "made", "sure", "doubt", "lies", "note", "book", "0", "ann", "ann 0",
    # things and hosts
    "thing eve", "thing eve ", "thing  eve 0", "thing eve  0", " thing eve 0", "thing eve 0 ", "thing eve 0 0",
    "thing eve 5", "thing eve 00", "thing eve 01", "thing eve -1", "thing eve 10", "thing eve a", "thing Eve 0",
    "thing e1 0", "thing abcdefghi 0", "thing 0", "thing 0 eve", "thing  0", "Thing eve 0", "things eve 0",
    "thing\teve 0", "thing eve,0", "thingeve 0", "thing eve0", "host eve", "host eve 5", "host eve 00",
    "host eve  0", "host  eve 0", " host eve 0", "host eve 0 ", "host abcdefghi 0", "host Eve 0", "hosts eve 0",
    "host eve 0 0", "thing eve +1", "thing eve 1_", "thing eve \u00b2",
    # scraps
    "scrap ", "scrap  eve", "scrap eve ", "scrap eve 0", "scrap eve eva", "scrap Eve", "scrap e1", "scrap abcdefghi",
    " scrap eve", "Scrap eve", "scraps eve", "scrapeve", "scrap " + "a" * 5000,
    # makings
    "made hal ann bob", "made hal ann bob cat ", "made  hal ann bob cat", "made hal  ann bob cat",
    "made hal ann bob  cat", " made hal ann bob cat", "made hal ann bob cat cat", "made hal ann bob Cat",
    "made hal ann bob c1", "made hal ann bob abcdefghi", "Made hal ann bob cat", "made hal,ann bob cat",
    "make hal ann bob cat", "made hal ann bob 0", "made", "made ",
    # notes
    "sure ", "doubt ", "sure as", "sure as ann", "sure as ann ", "sure as ann bob ", "sure  as ann bob",
    "sure as  ann bob", "sure as ann  bob", " sure as ann bob", "sure as ann bob cat", "sure As ann bob",
    "Sure as ann bob", "sure like ann bob", "sure gives ann bob cat", "sure as ann 0", "sure as ann abcdefghi",
    "as ann bob", "surely as ann bob", "doubts as ann bob", "doubt sure as ann bob", "sure apart ann",
    "sure apart ann bob cat", "doubt apart  ann bob", "doubt apart Ann bob", "sure right ann 0", "sure right ann 0 1 2",
    "sure right ann 0 5", "sure right ann 5 0", "sure right ann 00 1", "sure right ann 0 01", "sure right ann 0  1",
    "sure right  ann 0 1", "sure right ann 0 a", "sure right ann a 0", "sure right 0 1", "sure right 0 0 1",
    "sure right ann 0 1 ", "sure right ann 0 -1", "sure right ann ann 0",
    "sure right", "sure right ", "sure right ann", "sure right ann x 0 1", "sure right ann 0 x 1", "sure right 0 1 2", "sure host", "sure host ", "sure host hal ",
    "sure host hal hal", "sure host  hal", "sure host Hal", "sure host 0", "sure host abcdefghi", "sure", "doubt",
    # lies
    "lies", "lies ", "lies  0", "lies 00", "lies 01", "lies -1", "lies +1", "lies a", "lies 0 ", " lies 0", "lies 0 0",
    "lies 1,0", "Lies 0", "lie 0", "lies 0x1", "lies 1_0", "lies 1.0", "lies \u00b2", "lies 0" + "1" * 5000,
]


class TestWrite(Case):
    def test_the_sample(self):
        self.same(write_book(book()), TEXT)

    def test_the_empty_book(self):
        self.same(write_book(EMPTY_BOOK), "lies 0")

    def test_books_from_lists(self):
        told = Book(*[list(part) if isinstance(part, tuple) else part for part in parts_of(book())])
        self.same(write_book(told), TEXT)

    def test_no_book(self):
        for value in NO_BOOKS + [TEXT]:
            self.wrong(BadBook, value, write_book, value)


class TestRead(Case):
    def bad(self, at, rows):
        text = "\n".join(rows)
        self.wrong(BadText, at, read_book, text)

    def test_the_sample(self):
        told = read_book(TEXT)
        self.assertEqual(told, book())
        self.same(parts_of(told), parts_of(book()))

    def test_what_is_written_is_read(self):
        lot = random.Random(19)
        for _ in range(200):
            told = random_book(lot)
            again = read_book(write_book(told))
            self.assertEqual(again, told)
            self.same(parts_of(again), parts_of(told))

    def test_the_longest_books(self):
        told = Book([(name, 0) for name in names(16, "abcdefg")], names(6, "s"), [(name, 4) for name in names(6, "h")],
                    (), [("as", a, b) for a in names(5, "abcdefg") for b in names(4, "abcdefg")],
                    (1, 3, 5, 7, 9, 11, 13, 15), 8)
        self.assertEqual(read_book(write_book(told)), told)

    def test_only_lies(self):
        self.assertEqual(read_book("lies 0"), EMPTY_BOOK)

    def test_some_kinds_of_rows_alone(self):
        self.same(parts_of(read_book("thing a 3\nlies 0")), [(("a", 3),), (), (), (), (), (), 0])
        self.same(parts_of(read_book("scrap a\nlies 0")), [(), ("a",), (), (), (), (), 0])
        self.same(parts_of(read_book("host a 4\ndoubt host a\nlies 1")),
                  [(), (), (("a", 4),), (), (("host", "a"),), (0,), 1])

    def test_no_string(self):
        for value in NO_LISTS + [(), [], ["lies 0"], ("lies 0",), [TEXT]]:
            if not isinstance(value, str):
                self.wrong(BadText, -1, read_book, value)

    def test_rows_that_are_none(self):
        for row in NO_ROWS:
            for at in (0, 1, 4, 7, 9, 12, 17):
                self.bad(at, ROWS[:at] + [row] + ROWS[at:])
                self.bad(at, ROWS[:at] + [row] + ROWS[at + 1:])
                self.bad(at, ROWS[:at] + [row, row])
            self.bad(0, [row])

    def test_rows_out_of_their_order(self):
        for kind, (begin, end) in enumerate(KINDS):
            for later, _ in KINDS[kind + 1:]:
                row = ROWS[begin]
                self.bad(later + 1, ROWS[:later + 1] + [row] + ROWS[later + 1:])
                if later == end:
                    # Behind the last row of its own kind it still stands where it can.
                    self.bad(later + 1, ROWS[:later] + [ROWS[later], row] + ROWS[later + 1:])

    def test_sure_and_doubt_are_mixed(self):
        rows = ["thing a 0", "thing b 0", "doubt as a b", "sure as b a", "doubt as a a", "lies 2"]
        told = read_book("\n".join(rows))
        self.same((told.notes, told.doubtful), ((("as", "a", "b"), ("as", "b", "a"), ("as", "a", "a")), (0, 2)))

    def test_behind_lies_stands_nothing(self):
        for row in ROWS + ["", "lies 0", "lies 2", "sure as ann bob"]:
            self.bad(18, ROWS + [row])
            self.bad(18, ROWS + [row, row])
        self.bad(1, ["lies 0", "lies 0"])
        self.bad(1, ["lies 0", ""])

    def test_no_lies(self):
        for many in range(18):
            if many:
                self.bad(many, ROWS[:many])
        self.bad(0, [""])

    def test_the_first_wrong_row(self):
        self.bad(2, ROWS[:2] + ["thing"] + ROWS[2:4] + ["thing"])
        # Behind rows that no book can have: what is written comes first.
        self.bad(2, ["thing ann 0", "thing ann 0"])
        self.bad(2, ["thing ann 0", "thing ann 0", "lies"])

    def test_what_no_book_can_have(self):
        for rows, value in [
                (["thing ann 0", "thing ann 0", "lies 0"], ("things", 1)),
                (["thing ann 0", "scrap ann", "lies 0"], ("scraps", 0)),
                (["host ann 0", "host bob 0", "host ann 1", "lies 0"], ("hosts", 2)),
                (["thing ann 0", "made hal ann ann ann", "lies 0"], ("makings", 0)),
                (["thing ann 0", "sure as ann bob", "lies 0"], ("notes", 0)),
                (["thing ann 0", "sure as ann ann", "doubt as ann ann", "lies 0"], ("notes", 1)),
                (["thing ann 0", "sure as ann ann", "lies 1"], ("lies", -1)),
                (["thing ann 0", "doubt as ann ann", "lies 2"], ("lies", -1)),
                (["lies 1"], ("lies", -1)), (["lies 10"], ("lies", -1)), (["lies 1000000000"], ("lies", -1)),
                (["lies 1" + "0" * 5000], ("lies", -1)), (["lies " + "9" * 90000], ("lies", -1)),
                (["thing ann 0", "thing ann 0", "lies 1" + "0" * 5000], ("things", 1)),
                ([f"thing {name} 0" for name in names(17)] + ["lies 0"], ("things", -1)),
                ([f"scrap {name}" for name in names(7)] + ["lies 0"], ("scraps", -1)),
                ([f"host {name} 0" for name in names(7)] + ["lies 0"], ("hosts", -1)),
                (["host a 0"] + ["made a b c d"] * 31 + ["lies 0"], ("makings", -1)),
                (["host a 0"] + ["sure host a"] * 21 + ["lies 0"], ("notes", -1)),
                ([f"thing {name} 0" for name in names(9)] + [f"doubt as aa {name}" for name in names(9)] + ["lies 0"],
                 ("doubtful", -1))]:
            self.wrong(BadBook, value, read_book, "\n".join(rows))

    def test_long_texts(self):
        self.wrong(BadBook, ("things", -1), read_book, "thing a 0\n" * 9000 + "lies 0")
        self.wrong(BadText, 9000, read_book, "thing a 0\n" * 9000)
        self.wrong(BadText, 0, read_book, "a" * 100000)
        self.wrong(BadText, 0, read_book, " " * 100000)
        self.wrong(BadText, 0, read_book, "\n" * 100000)


class TestNotes(Case):
    def test_each_kind_of_note(self):
        for note in PARTS["notes"]:
            for doubt in (False, True):
                told = book(notes=(), doubtful=(), lies=0).with_note(note, doubt)
                row = " ".join(["doubt" if doubt else "sure"] + [str(item) for item in note])
                self.assertIn(row, write_book(told).split("\n"))
                self.assertEqual(read_book(write_book(told)), told)


if __name__ == "__main__":
    unittest.main()
