"""Points [3], [17], [18] and [20]."""

import random
import unittest

from tests.cases import EMPTY_BOOK, NO_FORMS, NO_LISTS, NO_NAMES, NO_SIGNS, Case, nested
from tests.samples import PARTS, WORDS, all_claims, book, changed, names, parts_of, random_book
from trulymade.books import Book, is_claim
from trulymade.errors import BadBook, BadFlag, BadName, BadPlace
from trulymade.names import is_name
from trulymade.rules import Rules

NO_BOOKS = [None, True, 0, "", "book", (), [], {}, tuple(changed()), [EMPTY_BOOK], (EMPTY_BOOK,), Rules(())]
NO_INDEXES = [-1, 10 ** 400, None, True, False, "", "1", (), (1,), [1], {}, {1: 1}, nested(20), Rules((1,))]


class TestNames(Case):
    def test_names(self):
        for name in ("a", "z", "abcdefgh", "zzzzzzzz", "thing", "lies"):
            self.assertIs(is_name(name), True)

    def test_no_names(self):
        for value in NO_NAMES:
            self.assertIs(is_name(value), False)


class TestBook(Case):
    def bad(self, word, at, **parts):
        """These parts make no book, as lists neither; the first wrong thing is this one."""
        values = changed(**parts)
        self.wrong(BadBook, (word, at), Book, *values)
        lists = [list(value) if isinstance(value, tuple) else value for value in values]
        self.wrong(BadBook, (word, at), Book, *lists)

    def test_attributes(self):
        for values in (changed(), [list(value) if isinstance(value, tuple) else value for value in changed()]):
            before = repr(values)
            told = Book(*values)
            self.same(parts_of(told), changed())
            self.assertEqual(repr(values), before)

    def test_rows_are_copied(self):
        values = [list(value) if isinstance(value, tuple) else value for value in changed()]
        told = Book(*values)
        for value in values[:6]:
            value.clear()
        self.same(parts_of(told), changed())
        self.same(told.form("ann"), 0)

    def test_the_empty_book(self):
        self.same(parts_of(EMPTY_BOOK), [(), (), (), (), (), (), 0])
        self.assertEqual(Book([], [], [], [], [], [], 0), EMPTY_BOOK)

    def test_as_long_as_let(self):
        things = [(name, 0) for name in names(16)]
        makings = [("ha", a, b, c) for a in names(4) for b in names(4) for c in names(2)][:30]
        notes = [("as", a, b) for a in names(5) for b in names(4)]
        hosts = [(name, 0) for name in names(6, "h")]
        told = Book(things, names(6, "s"), hosts, makings, notes, list(range(8)), 8)
        self.assertEqual([len(part) for part in parts_of(told)[:6]], [16, 6, 6, 30, 20, 8])
        rows = parts_of(told)
        longer = ((things + [("zz", 0)], "things"), (names(7, "s"), "scraps"),
                  ([(name, 0) for name in names(7, "h")], "hosts"), (makings + [("ha", "aa", "ae", "aa")], "makings"),
                  (notes + [("as", "aa", "af")], "notes"), (tuple(range(9)), "doubtful"))
        for at, (row, word) in enumerate(longer):
            self.wrong(BadBook, (word, -1), Book, *rows[:at], row, *rows[at + 1:])
            # The length comes ahead of what is wrong at an index.
            self.wrong(BadBook, (word, -1), Book, *rows[:at], [None] + list(row), *rows[at + 1:])
        self.wrong(BadBook, ("lies", -1), Book, *rows[:6], 9)

    def test_no_rows(self):
        for word in WORDS[:6]:
            for value in NO_LISTS:
                self.bad(word, -1, **{word: value})

    def test_things_and_hosts(self):
        for word in ("things", "hosts"):
            good = PARTS[word]
            wrongs = NO_LISTS + [(), ("eve",), ["eve", 0], ("eve", 0, 0), (0, "eve"), "eve", (("eve", 0),)]
            wrongs += [(name, 0) for name in NO_NAMES] + [("eve", form) for form in NO_FORMS]
            for value in wrongs:
                for at in range(3):
                    self.bad(word, at, **{word: good[:at] + (value,) + good[at:]})
                self.bad(word, 1, **{word: good[:1] + (value, None) + good[1:]})

    def test_scraps(self):
        for value in NO_NAMES + [("rag", 0), ("rag",), 5]:
            for at in range(3):
                self.bad("scraps", at, scraps=PARTS["scraps"][:at] + (value,) + PARTS["scraps"][at:])

    def test_names_that_stand_already(self):
        self.bad("things", 1, things=(("ann", 0), ("ann", 1), ("ann", 2)))
        self.bad("things", 4, things=PARTS["things"] + (("bob", 0),))
        self.bad("scraps", 1, scraps=("rag", "rag"))
        self.bad("scraps", 1, scraps=("rag", "dan"))
        self.bad("scraps", 0, scraps=("ann", "ann"))
        self.bad("hosts", 1, hosts=(("hal", 0), ("hal", 0)))
        self.bad("hosts", 2, hosts=PARTS["hosts"] + (("ann", 0),))
        self.bad("hosts", 2, hosts=PARTS["hosts"] + (("tag", 0),))

    def test_makings(self):
        good = PARTS["makings"]
        wrongs = NO_LISTS + [(), ("hal", "ann", "bob"), ["hal", "ann", "bob", "bob"], good[0] + ("cat",), good]
        for at in range(4):
            for name in NO_NAMES + ["eve", "Ann", "host", "rag" if at < 3 else "hal", "ann" if at == 0 else "hal"]:
                wrongs.append(("hal", "ann", "bob", "bob")[:at] + (name,) + ("hal", "ann", "bob", "bob")[at + 1:])
        # The maker has the host's form; a thing and an outcome any.
        wrongs += [("hal", "cat", "ann", "ann"), ("ida", "ann", "ann", "ann"), ("hal", "dan", "ann", "ann"),
                   ("hal", "ann", "rag", "bob"), ("hal", "ann", "bob", "ida")]
        for value in wrongs:
            for at in range(4):
                self.bad("makings", at, makings=good[:at] + (value,) + good[at:])

    def test_outcomes_are_things_or_scraps(self):
        for outcome in ("ann", "bob", "cat", "dan", "rag", "tag"):
            told = book(makings=[("hal", "ann", "dan", outcome)])
            self.same(told.makings, (("hal", "ann", "dan", outcome),))

    def test_makings_and_notes_that_stand_twice(self):
        good = PARTS["makings"]
        self.bad("makings", 3, makings=good + (good[1],))
        self.bad("makings", 1, makings=(good[0], good[0], good[0]))
        notes = PARTS["notes"]
        for at, note in enumerate(notes):
            self.bad("notes", 6, notes=notes + (note,))
            self.bad("notes", at + 1, notes=notes[:at] + (note, note) + notes[at + 1:])
        # Other tuples that tell the same may stand.
        book(makings=good + (("hal", "ann", "bob", "dan"),),
             notes=notes + (("as", "bob", "ann"), ("apart", "cat", "ann")))

    def test_notes(self):
        good = PARTS["notes"]
        wrongs = NO_LISTS + [(), ("as",), ("as", "ann"), ("as", "ann", "bob", "cat"), ["as", "ann", "bob"],
                             ("As", "ann", "bob"), ("like", "ann", "bob"), ("gives", "ann", "bob", "cat"),
                             ("right", "ann", 0), ("right", "ann", 0, 1, 2), ["right", "ann", 0, 1], ("host",),
                             ("host", "hal", "hal"), ["host", "hal"], ("hal",), (None, "ann", "bob"),
                             (("as",), "ann", "bob"), ("apart", "ann"), ("right", "ann", "bob"), ("as", "ann", 0, 1),
                             ("host", "hal", 0), (0, "hal"), ("right", 0, 1, "ann")]
        for name in NO_NAMES + ["eve", "rag", "hal"]:
            wrongs += [("as", name, "ann"), ("as", "ann", name), ("apart", name, "ann"), ("apart", "ann", name),
                       ("right", name, 0, 1)]
        wrongs += [("host", name) for name in NO_NAMES + ["eve", "rag", "ann"]]
        wrongs += [("right", "ann", form, 1) for form in NO_FORMS] + [("right", "ann", 1, form) for form in NO_FORMS]
        for value in wrongs:
            for at in (0, 3, 6):
                self.bad("notes", at, notes=good[:at] + (value,) + good[at:])

    def test_each_kind_of_note(self):
        notes = [("as", "ann", "ann"), ("as", "ann", "dan"), ("as", "dan", "ann"), ("apart", "bob", "bob"),
                 ("right", "dan", 0, 0), ("right", "dan", 0, 4), ("right", "dan", 4, 0), ("host", "ida")]
        self.same(book(notes=notes, doubtful=(), lies=0).notes, tuple(notes))

    def test_doubtful(self):
        for value in NO_INDEXES + [6, 7, 99]:
            for at in range(3):
                self.bad("doubtful", at, doubtful=(0, 1)[:at] + (value,) + (4, 5)[at - 2:])
        self.bad("doubtful", 1, doubtful=(1, 1, 1))
        self.bad("doubtful", 1, doubtful=(1, 0, 2))
        self.bad("doubtful", 2, doubtful=(0, 5, 4, 9))
        self.bad("doubtful", 0, doubtful=(0,), notes=())
        self.same(book(doubtful=[0, 1, 2, 3, 4, 5], lies=6).doubtful, (0, 1, 2, 3, 4, 5))

    def test_lies(self):
        for lies in range(4):
            self.same(book(lies=lies).lies, lies)
        for value in NO_INDEXES + [4, 5, 99]:
            self.bad("lies", -1, lies=value)
        self.bad("lies", -1, doubtful=(), lies=1)
        self.same(book(doubtful=(), lies=0).lies, 0)

    def test_the_first_wrong_word(self):
        for first, word in enumerate(WORDS[:6]):
            wrong = {later: None for later in WORDS[first:]}
            self.bad(word, -1, **wrong)
            if word != "doubtful":
                wrong[word] = PARTS[word] + (None,)
                self.bad(word, len(PARTS[word]), **wrong)
        self.bad("things", 0, things=[None] * 16, scraps=[None])

    def test_equality(self):
        self.assertIs(book() == book(), True)
        self.assertIs(book() != book(), False)
        self.assertIs(book() == Book(*[list(part) if isinstance(part, tuple) else part for part in changed()]), True)
        others = [book(things=PARTS["things"] + (("eve", 0),)), book(scraps=("tag", "rag")),
                  book(hosts=(("hal", 0), ("ida", 1), ("eve", 1))),
                  book(makings=PARTS["makings"][:2]), book(notes=PARTS["notes"] + (("as", "bob", "ann"),)),
                  book(doubtful=(0, 3, 5)), book(lies=1), EMPTY_BOOK]
        for at, other in enumerate(others):
            self.assertIs(book() == other, False)
            self.assertIs(book() != other, True)
            self.assertIs(other == others[(at + 1) % len(others)], False)
        for other in NO_BOOKS[:-3] + [changed(), object(), Rules(())]:
            self.assertIs(book() == other, False)
            self.assertIs(other == book(), False)


class TestMethods(Case):
    def test_form(self):
        told = book()
        for name, form in PARTS["things"] + PARTS["hosts"]:
            self.same(told.form(name), form)
        for name in PARTS["scraps"]:
            self.assertIsNone(told.form(name))
        for name in NO_NAMES + ["eve", "an", "anna", "host"]:
            self.wrong(BadName, name, told.form, name)
            self.wrong(BadName, name, EMPTY_BOOK.form, name)

    def test_notes(self):
        self.same(book().all_notes(), (0, 1, 2, 3, 4, 5))
        self.same(book().sure_notes(), (1, 2, 5))
        self.same(book(doubtful=(), lies=0).sure_notes(), (0, 1, 2, 3, 4, 5))
        self.same(book(doubtful=(0, 1, 2, 3, 4, 5)).sure_notes(), ())
        self.same((EMPTY_BOOK.all_notes(), EMPTY_BOOK.sure_notes()), ((), ()))

    def grown(self, told, **parts):
        """This book is the sample with these rows, and the sample is as it was."""
        self.same(parts_of(told), changed(**parts))

    def test_with_more(self):
        told = book()
        self.grown(told.with_thing("eve", 4), things=PARTS["things"] + (("eve", 4),))
        self.grown(told.with_scrap("eve"), scraps=PARTS["scraps"] + ("eve",))
        self.grown(told.with_host("eve", 4), hosts=PARTS["hosts"] + (("eve", 4),))
        self.grown(told.with_making(("ida", "cat", "dan", "tag")),
                   makings=PARTS["makings"] + (("ida", "cat", "dan", "tag"),))
        self.grown(told.with_note(("as", "bob", "ann"), False), notes=PARTS["notes"] + (("as", "bob", "ann"),))
        self.grown(told.with_note(("as", "bob", "ann"), True), notes=PARTS["notes"] + (("as", "bob", "ann"),),
                   doubtful=(0, 3, 4, 6))
        self.grown(told.with_lies(3), lies=3)
        self.grown(told.with_lies(0), lies=0)
        self.grown(told)
        self.same(told.with_thing("eve", 4).form("eve"), 4)

    def test_a_book_made_piece_by_piece(self):
        told = EMPTY_BOOK
        for name, form in PARTS["things"]:
            told = told.with_thing(name, form)
        for name in PARTS["scraps"]:
            told = told.with_scrap(name)
        for name, form in PARTS["hosts"]:
            told = told.with_host(name, form)
        for making in PARTS["makings"]:
            told = told.with_making(making)
        for at, note in enumerate(PARTS["notes"]):
            told = told.with_note(note, at in PARTS["doubtful"])
        self.assertEqual(told.with_lies(2), book())
        self.same(parts_of(EMPTY_BOOK), [(), (), (), (), (), (), 0])

    def test_with_something_wrong(self):
        told = book()
        for name in NO_NAMES + ["ann", "dan"]:
            self.wrong(BadBook, ("things", 4), told.with_thing, name, 0)
            self.wrong(BadBook, ("things", 4), told.with_thing, name, None)
        for form in NO_FORMS:
            self.wrong(BadBook, ("things", 4), told.with_thing, "eve", form)
            self.wrong(BadBook, ("hosts", 2), told.with_host, "eve", form)
        # A new thing with the name of a scrap or a host: the later one is wrong then.
        self.wrong(BadBook, ("scraps", 1), told.with_thing, "tag", 0)
        self.wrong(BadBook, ("hosts", 0), told.with_thing, "hal", 0)
        self.wrong(BadBook, ("hosts", 1), told.with_scrap, "ida")
        for name in NO_NAMES + ["ann", "tag"]:
            self.wrong(BadBook, ("scraps", 2), told.with_scrap, name)
        for name in NO_NAMES + ["ann", "tag", "hal"]:
            self.wrong(BadBook, ("hosts", 2), told.with_host, name, 0)
        for making in NO_LISTS + [("hal", "cat", "ann", "ann"), list(PARTS["makings"][0]), PARTS["makings"][0]]:
            self.wrong(BadBook, ("makings", 3), told.with_making, making)
        for note in NO_LISTS + [("host", "ann"), ["host", "hal"], ("host", "hal"), ("gives", "ann", "bob", "cat")]:
            self.wrong(BadBook, ("notes", 6), told.with_note, note, False)
            self.wrong(BadBook, ("notes", 6), told.with_note, note, True)
        for lies in NO_INDEXES + [4, 9]:
            self.wrong(BadBook, ("lies", -1), told.with_lies, lies)

    def test_no_flag(self):
        for value in [None, 0, 1, -1, 2, "", "True", "sure", (), (True,), [], [True], {}, {1: True}, Rules(())]:
            self.wrong(BadFlag, value, book().with_note, ("as", "bob", "ann"), value)
            self.wrong(BadFlag, value, book().with_note, None, value)

    def test_with_one_too_many(self):
        full = Book([(name, 0) for name in names(16)], names(6, "s"), [(name, 0) for name in names(6, "h")],
                    [("ha", a, b, c) for a in names(5) for b in names(3) for c in names(2)],
                    [("as", a, b) for a in names(5) for b in names(4)], list(range(8)), 0)
        self.wrong(BadBook, ("things", -1), full.with_thing, "zz", 0)
        self.wrong(BadBook, ("things", -1), full.with_thing, None, 0)
        self.wrong(BadBook, ("scraps", -1), full.with_scrap, "zz")
        self.wrong(BadBook, ("hosts", -1), full.with_host, "zz", 0)
        self.wrong(BadBook, ("makings", -1), full.with_making, ("hb", "aa", "aa", "aa"))
        self.wrong(BadBook, ("notes", -1), full.with_note, ("host", "ha"), False)
        self.wrong(BadBook, ("notes", -1), full.with_note, ("host", "ha"), True)
        less = full.without_note(19)
        self.same(less.with_note(("host", "ha"), False).doubtful, tuple(range(8)))
        self.wrong(BadBook, ("doubtful", -1), less.with_note, ("host", "ha"), True)

    def test_without_note(self):
        told = book()
        notes = PARTS["notes"]
        self.grown(told.without_note(0), notes=notes[1:], doubtful=(2, 3))
        self.grown(told.without_note(1), notes=notes[:1] + notes[2:], doubtful=(0, 2, 3))
        self.grown(told.without_note(3), notes=notes[:3] + notes[4:], doubtful=(0, 3))
        self.grown(told.without_note(4), notes=notes[:4] + notes[5:], doubtful=(0, 3))
        self.grown(told.without_note(5), notes=notes[:5])
        self.grown(told)

    def test_without_note_lies_become_less(self):
        notes = PARTS["notes"]
        self.grown(book(lies=3).without_note(3), notes=notes[:3] + notes[4:], doubtful=(0, 3), lies=2)
        self.grown(book(lies=3).without_note(2), notes=notes[:2] + notes[3:], doubtful=(0, 2, 3), lies=3)
        self.grown(book(lies=1).without_note(0).without_note(2).without_note(2), notes=notes[1:3] + notes[5:],
                   doubtful=(), lies=0)
        told = book(lies=2)
        for _ in range(6):
            told = told.without_note(0)
        self.grown(told, notes=(), doubtful=(), lies=0)

    def test_no_place(self):
        for value in NO_INDEXES + [6, 7]:
            self.wrong(BadPlace, value, book().without_note, value)
            self.wrong(BadPlace, value, EMPTY_BOOK.without_note, value)
        self.wrong(BadPlace, 0, EMPTY_BOOK.without_note, 0)


class TestClaims(Case):
    def test_claims(self):
        for claim in (("as", "ann", "bob"), ("as", "ann", "ann"), ("as", "dan", "cat"), ("apart", "bob", "ann"),
                      ("apart", "ann", "ann"), ("right", "ann", 0, 4), ("right", "dan", 4, 0), ("right", "cat", 2, 2),
                      ("gives", "ann", "bob", "cat"), ("gives", "dan", "dan", "dan"), ("gives", "dan", "ann", "rag")):
            self.assertIs(is_claim(book(), claim), True)
            self.assertIs(is_claim(EMPTY_BOOK, claim), False)

    def test_all_claims_of_random_books(self):
        lot = random.Random(20)
        for _ in range(20):
            told = random_book(lot)
            for claim in all_claims(told):
                self.assertIs(is_claim(told, claim), True)
                self.assertIs(is_claim(told, list(claim)), False)

    def test_no_claims(self):
        values = NO_LISTS + [(), ("as",), ("as", "ann"), ("as", "ann", "bob", "cat"), ["as", "ann", "bob"],
                             ("host", "hal"), ("host", "ann"), ("clash",), ("said",), ("gives", "ann", "bob"),
                             ("gives", "ann", "bob", "cat", "cat"), ("gives", "ann", "rag", "cat"),
                             ("gives", "rag", "ann", "cat"), ("gives", "ann", "bob", "hal"), ("as", "ann", "rag"),
                             ("as", "hal", "ida"), ("right", "ann", 0), ("right", "ann", 0, 1, 1),
                             ("right", "rag", 0, 1), ("right", "hal", 0, 0), (None, "ann", "bob"), (("as",), "ann", "bob"), nested(20)]
        values += [("right", "ann", form, 1) for form in NO_FORMS] + [("right", "ann", 1, form) for form in NO_FORMS]
        for name in NO_NAMES + NO_SIGNS + ["eve"]:
            values += [("as", name, "ann"), ("as", "ann", name), ("apart", name, "ann"), ("apart", "ann", name),
                       ("right", name, 0, 1), ("gives", name, "ann", "ann"), ("gives", "ann", name, "ann"),
                       ("gives", "ann", "ann", name), (name, "ann", "bob")]
        for value in values:
            before = repr(value)
            self.assertIs(is_claim(book(), value), False)
            self.assertEqual(repr(value), before)

    def test_no_book(self):
        for value in NO_BOOKS:
            self.wrong(BadBook, value, is_claim, value, ("as", "ann", "bob"))
            self.wrong(BadBook, value, is_claim, value, None)


if __name__ == "__main__":
    unittest.main()
