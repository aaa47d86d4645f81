"""Point [8]."""

import unittest

from tests.cases import NO_LISTS, Case, no_rows, random_rules
from trulymade.errors import BadRow, BadText
from trulymade.listings import read_body, write_body
from trulymade.rules import body_for

EXAMPLE = (0, 0, 0, 1, 2, 0, 1, 98, 2, 3, 20, 1, 1, 1, 1, 1, 50, 1)
EXAMPLE_TEXT = "start 0\n0 1: put 98, own 3 20 > 1\n1 other: plus 50 > 1"

# Rows of a listing, and the rules that they stand for.
ROWS = [
    ("7 5: nothing > 8", (7, 5, (), 8)),
    ("0 0: nothing > 0", (0, 0, (), 0)),
    ("99 99: nothing > 99", (99, 99, (), 99)),
    ("10 20: nothing > 30", (10, 20, (), 30)),
    ("7 other: nothing > 8", (7, "other", (), 8)),
    ("7 end: nothing", (7, "end", (), None)),
    ("7 5: put > 8", (7, 5, (("put", ()),), 8)),
    ("7 end: put", (7, "end", (("put", ()),), None)),
    ("7 end: put, put, put 0", (7, "end", (("put", ()), ("put", ()), ("put", (0,))), None)),
    ("7 5: put 0 10 99 > 8", (7, 5, (("put", (0, 10, 99)),), 8)),
    ("7 5: plus 0 > 8", (7, 5, (("plus", 0),), 8)),
    ("7 other: own 12 34 > 8", (7, "other", (("own", 12, 34),), 8)),
    ("7 end: own 0 0, plus 5, put 1 2", (7, "end", (("own", 0, 0), ("plus", 5), ("put", (1, 2))),
                                         None)),
    ("7 5: plus 1, put, own 2 3 > 8", (7, 5, (("plus", 1), ("put", ()), ("own", 2, 3)), 8)),
    ("7 end: put" + " 5" * 99, (7, "end", (("put", (5,) * 99),), None)),
    ("7 5: " + "plus 5, " * 98 + "plus 5 > 8", (7, 5, (("plus", 5),) * 99, 8)),
]

NO_STARTS = ["", " ", "start", "start ", "start  0", " start 0", "start 0 ", "start 00", "start 05",
             "start 100", "start -1", "start +1", "start a", "start 0 0", "start: 0", "Start 0",
             "starts 0", "start0", "0", "5", "0 start", "start 1_0", "start 0.", "start\t0",
             "0 1: nothing > 1", "start 0, 1", "start 1" + "0" * 5000]

NO_ROWS = [
    # no row of a rule at all
    "", " ", "nothing", "start 0", "a", "0", "0 1", "0 end", ":", " > ", ": ", ":  > ", "0 1 2 > 3",
    # stands
    "100 1: nothing > 1", "00 1: nothing > 1", "07 1: nothing > 1", "-1 1: nothing > 1",
    "a 1: nothing > 1", " 1: nothing > 1", "1: nothing > 1", ": nothing > 1", "other: nothing > 1",
    "end: nothing", " end: nothing", "07 end: nothing", "100 end: nothing", "x end: nothing",
    # words
    "0 100: nothing > 1", "0 01: nothing > 1", "0 00: nothing > 1", "0 -1: nothing > 1",
    "0 : nothing > 1", "0 any: nothing > 1", "0 Other: nothing > 1", "0 others: nothing > 1",
    "0 1 1: nothing > 1", "0 other 1: nothing > 1", "0 End: nothing", "0 ends: nothing",
    "0 end end: nothing", "0 1, 2: nothing > 1", "0 +1: nothing > 1",
    # next stands
    "0 1: nothing", "0 1: nothing > ", "0 1: nothing >", "0 1: nothing > 100",
    "0 1: nothing > 01", "0 1: nothing > 00", "0 1: nothing > -1", "0 1: nothing > a",
    "0 1: nothing > 1 > 1", "0 1: nothing > 1 1", "0 1: nothing 1", "0 other: nothing",
    "0 other: nothing > end", "0 end: nothing > 1", "0 end: plus 1 > 1", "0 end: put > 1",
    "0 end: put 1 > 1", "0 1: nothing < 1", "0 1: nothing >> 1", "0 1: nothing > None",
    # items
    "0 1:  > 1", "0 1: > 1", "0 end: ", "0 end:", "0 1: nothing, plus 1 > 1",
    "0 1: plus 1, nothing > 1", "0 1: nothing, nothing > 1", "0 end: nothing, put",
    "0 end: put, nothing", "0 1: nothing 5 > 1", "0 1: Nothing > 1", "0 1: plus > 1",
    "0 1: plus 1 2 > 1", "0 1: own > 1", "0 1: own 1 > 1", "0 1: own 1 2 3 > 1",
    "0 1: plus 100 > 1", "0 1: plus 01 > 1", "0 1: plus -1 > 1", "0 1: own 01 2 > 1",
    "0 1: own 1 02 > 1", "0 1: own 100 2 > 1", "0 1: own 1 100 > 1", "0 1: put 1 100 > 1",
    "0 1: put 01 1 > 1", "0 1: put 1 2 00 > 1", "0 1: put a > 1", "0 1: add 1 > 1",
    "0 1: Put 1 > 1", "0 1: put1 > 1", "0 1: 1 > 1", "0 1: puts > 1", "0 1: plus x > 1",
    "0 end: plus 1 2", "0 end: own 1", "0 end: 5",
    # blanks
    " 0 1: nothing > 1", "0  1: nothing > 1", "0 1 : nothing > 1", "0 1:  nothing > 1",
    "0 1:nothing > 1", "0 1: nothing  > 1", "0 1: nothing >  1", "0 1: nothing> 1",
    "0 1: nothing >1", "0 1: nothing > 1 ", "01: nothing > 1", "0 end: nothing ",
    "0 end:  nothing", "0 end:nothing", "0 1: plus  1 > 1", "0 1: put  > 1", "0 1: put  1 > 1",
    "0 1: put 1  2 > 1", "0 1: put 1,plus 1 > 1", "0 1: put 1,  plus 1 > 1",
    "0 1: put 1 , plus 1 > 1", "0 1: own 1  2 > 1", "0 end: put ", "0 end: put 1 ",
    "0 end: put,  put", "0 end: put , put", "0 end : nothing", "0  end: nothing",
    "0 1: own12 > 1", "0 1: own 1 2> 1",
    # commas and colons
    "0 1 nothing > 1", "0 1:: nothing > 1", "0 1: : nothing > 1", "0: 1: nothing > 1",
    "0 end nothing", "0 end:: nothing", "0 1; nothing > 1", "0 1: put 1 plus 1 > 1",
    "0 1: put 1,, plus 1 > 1", "0 1: put 1, , plus 1 > 1", "0 1: put 1, > 1", "0 1: , put 1 > 1",
    "0 1: put 1,  > 1", "0 1: put 1, 2 > 1", "0 1: own 1, 2 > 1", "0 1: plus 1; plus 1 > 1",
    "0 1: nothing, > 1", "0 end: put, ", "0 end: put,", "0 end: , put", "0, 1: nothing > 1",
    "0 1: put 1 > 1: put 1 > 1", "0 1: put: 1 > 1",
    # too long
    "0 end: put" + " 5" * 100, "0 1: plus 1, put" + " 0" * 100 + " > 1",
    "0 end: " + "plus 5, " * 99 + "plus 5", "0 1: " + "put, " * 99 + "put > 1",
    "0 1: plus 1" + "0" * 5000 + " > 1",
]


class TestWriting(Case):
    def test_the_example(self):
        for body in (EXAMPLE, list(EXAMPLE)):
            before = repr(body)
            self.same(write_body(body), EXAMPLE_TEXT)
            self.assertEqual(repr(body), before)

    def test_each_kind_of_row(self):
        for row, rule in ROWS:
            self.same(write_body(body_for(8, [rule])), "start 8\n" + row)

    def test_no_rules(self):
        self.same(write_body(()), "start 0")
        self.same(write_body([0]), "start 0")
        self.same(write_body((99,)), "start 99")

    def test_the_tail_is_not_written(self):
        self.same(write_body(EXAMPLE + (9, 9, 9)), EXAMPLE_TEXT)
        self.same(write_body((5, 7, 3, 0, 1)), "start 5")
        self.same(write_body(EXAMPLE[:-1]), "start 0\n0 1: put 98, own 3 20 > 1")

    def test_what_is_no_row(self):
        for value in no_rows():
            self.wrong(BadRow, value, write_body, value)

    def test_the_longest_bodies(self):
        self.same(write_body((1,) + (2, 2, 0) * 6666), "start 1" + "\n2 end: nothing" * 6666)
        self.same(write_body([3] * 20000), "start 3")


class TestReading(Case):
    def test_the_example(self):
        self.same(read_body(EXAMPLE_TEXT), EXAMPLE)

    def test_each_kind_of_row(self):
        for row, rule in ROWS:
            self.same(read_body("start 8\n" + row), body_for(8, [rule]))
            self.same(read_body("start 0\n" + row + "\n" + row), body_for(0, [rule, rule]))

    def test_starts(self):
        for start in range(100):
            self.same(read_body(f"start {start}"), (start,))

    def test_what_was_written_is_read(self):
        for seed in range(500):
            body = body_for(seed % 100, random_rules(seed))
            self.same(read_body(write_body(body)), body)

    def test_what_is_no_string(self):
        for value in NO_LISTS + [(), [], ["start 0"], ("start 0",), b"start 0"]:
            if not isinstance(value, str):
                self.wrong(BadText, -1, read_body, value)

    def test_wrong_first_row(self):
        for row in NO_STARTS:
            self.wrong(BadText, 0, read_body, row)
            self.wrong(BadText, 0, read_body, row + "\n0 1: nothing > 1")
            self.wrong(BadText, 0, read_body, row + "\nalso wrong\n0 1: nothing > 1")

    def test_wrong_later_row(self):
        good = "\n0 1: nothing > 1"
        for row in NO_ROWS:
            self.wrong(BadText, 1, read_body, "start 0\n" + row)
            self.wrong(BadText, 1, read_body, "start 0\n" + row + good)
            self.wrong(BadText, 3, read_body, "start 0" + good + good + "\n" + row)
            self.wrong(BadText, 2, read_body, "start 0" + good + "\n" + row + "\nalso wrong" + good)

    def test_line_feeds(self):
        self.wrong(BadText, 0, read_body, "")
        self.wrong(BadText, 0, read_body, "\n")
        self.wrong(BadText, 0, read_body, "\nstart 0")
        self.wrong(BadText, 1, read_body, "start 0\n")
        self.wrong(BadText, 3, read_body, EXAMPLE_TEXT + "\n")
        self.wrong(BadText, 1, read_body, EXAMPLE_TEXT.replace("\n", "\n\n"))
        self.wrong(BadText, 0, read_body, EXAMPLE_TEXT.replace("\n", " "))

    def test_signs_of_no_ascii(self):
        for digit in ("\u00b2", "\u0663", "\uff15"):
            self.wrong(BadText, 0, read_body, "start " + digit)
            self.wrong(BadText, 1, read_body, f"start 0\n0 end: plus {digit}")

    def test_the_longest_texts(self):
        row = "\n0 0: nothing > 0"
        self.same(read_body("start 1" + row * 5900), (1,) + (0,) * 29500)
        self.wrong(BadText, 5901, read_body, "start 1" + row * 5900 + "\n0 0: nothing > 00")
        self.wrong(BadText, 0, read_body, "\n" * 100000)
        self.wrong(BadText, 1, read_body, "start 0" + "\n" * 99993)
        self.wrong(BadText, 0, read_body, "start " + "1" * 99994)
        self.wrong(BadText, 1, read_body, "start 0\n0 end: put" + " 5" * 49990)
        self.wrong(BadText, 1, read_body, "start 0\n0 end: put" + ", put" * 19990)
        self.wrong(BadText, 1, read_body, "start 0\n0 end" + ": " * 49990)


if __name__ == "__main__":
    unittest.main()
