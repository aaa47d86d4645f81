"""Point [22], the worlds; with [21] and [26]."""

import random
import unittest

from tests.cases import EMPTY_BOOK, Case
from tests.doubts import ANSWERED, ANSWERS, BROKEN, doubted_book, full_book, many_ways_book, told
from tests.samples import all_claims, book, random_book
from tests.slow import Slow, leads
from tests.slow import answer as slow_answer
from tests.test_answers import NO_CLAIMS
from tests.test_books import NO_BOOKS
from trulymade.books import Book
from trulymade.building import some_world, world_with, world_without
from trulymade.closing import Closing
from trulymade.errors import BadBook, BadClaim
from trulymade.likeness import alike
from trulymade.right import is_right
from trulymade.worlds import holds, holds_for, is_world


class TestWorlds(Case):
    def world(self, made, world, claim=None, wanted=None):
        """A world of the book, in which the claim holds as it was wanted."""
        self.assertIsInstance(world, tuple)
        self.assertIs(is_world(made, world), True)
        self.judged(made, *world)
        if claim is not None:
            self.assertIs(holds(made, world, claim), wanted)

    def judged(self, made, false, rows):
        """All makings run and all notes judged once more, the makings by a slow machine."""
        self.assertEqual(sorted(rows), sorted([name for name, _ in made.things] + list(made.scraps)))
        notes = [note for at, note in enumerate(made.notes) if at not in false]
        for host, maker, thing, outcome in made.makings:
            if ("host", host) in notes:
                self.assertEqual(Slow(rows[maker]).run(rows[thing]), rows[outcome])
        for note in notes:
            if note[0] in ("as", "apart"):
                self.assertIs(alike(rows[note[1]], rows[note[2]]), note[0] == "as")
            if note[0] == "right":
                self.assertIs(is_right(note[2], note[3], rows[note[1]]), True)
                for body in ((), (0,), (99, 98), tuple(range(100))):
                    thing = (note[2], 63) + tuple((sign + 20 * note[2]) % 100 for sign in body)
                    self.assertTrue(leads(Slow(rows[note[1]]), note[3], thing))

    def both(self, made, claim, word):
        """The worlds with and without the claim, where there are some."""
        with_it, without_it = world_with(made, claim), world_without(made, claim)
        self.assertIs(with_it is not None, word in ("sure", "open"))
        self.assertIs(without_it is not None, word in ("never", "open"))
        if with_it is not None:
            self.world(made, with_it, claim, True)
        if without_it is not None:
            self.world(made, without_it, claim, False)

    def test_with_and_without(self):
        for word in ANSWERS:
            for claim in ANSWERS[word]:
                self.both(ANSWERED, claim, word)
                self.both(BROKEN, claim, "broken")

    def test_some_world(self):
        self.world(ANSWERED, some_world(ANSWERED))
        self.assertIsNone(some_world(BROKEN))
        self.same(some_world(EMPTY_BOOK), ((), {}))
        self.assertIsNone(some_world(ANSWERED.with_lies(0)))
        self.world(ANSWERED.with_lies(3), some_world(ANSWERED.with_lies(3)))

    def test_one_thing_alone(self):
        for form in range(5):
            one = Book([("a", form)], (), (), (), (), (), 0)
            self.world(one, some_world(one))
            self.both(one, ("as", "a", "a"), "sure")
            self.both(one, ("apart", "a", "a"), "never")
            for source in range(5):
                for target in range(5):
                    self.both(one, ("right", "a", source, target), "open")
            self.both(one, ("gives", "a", "a", "a"), "open")

    def test_scraps_alone(self):
        scraps = Book((), ["r", "s"], (), (), (), (), 0)
        self.world(scraps, some_world(scraps))

    def test_makers_run_on_themselves(self):
        notes = [("host", "h")]
        for outcome, right, word in (("a", ("right", "a", 0, 0), "sure"), ("b", ("right", "a", 0, 0), "sure"),
                                     ("d", ("right", "a", 0, 1), "sure"), ("r", ("right", "a", 0, 1), "never"),
                                     ("d", ("right", "a", 0, 0), "never")):
            made = told([("h", "a", "a", outcome)], notes)
            self.both(made, right, "open" if word == "sure" else "never")
            self.both(made, ("gives", "a", "a", outcome), "sure")
            if word == "sure":
                sure = made.with_note(right, False)
                self.both(sure, ("as", "a", outcome), "sure")
                for claim in (("gives", "a", "b", outcome), ("gives", outcome, outcome, "d"), ("apart", "a", "b")):
                    self.both(sure, claim, slow_answer(sure, claim))

    def test_rights_from_a_form_to_itself(self):
        made = told([("h", "a", "b", "c"), ("h", "c", "c", "c")], [("host", "h"), ("right", "a", 0, 0),
                                                                   ("right", "c", 0, 0), ("right", "f", 3, 3)])
        self.both(made, ("as", "b", "c"), "sure")
        self.both(made, ("gives", "b", "c", "c"), "sure")
        self.both(made, ("right", "f", 3, 3), "sure")
        self.both(made, ("as", "a", "b"), "open")
        self.both(made, ("gives", "a", "a", "a"), "open")

    def test_several_makings_of_one_maker(self):
        makings = [("h", "a", "a", "r"), ("h", "a", "b", "s"), ("h", "a", "c", "c"), ("h", "a", "d", "f"),
                   ("h", "a", "e", "r"), ("h", "a", "f", "d"), ("h", "b", "a", "r"), ("i", "d", "a", "d")]
        made = told(makings, [("host", "h"), ("host", "i")])
        for maker, word in (("a", "sure"), ("b", "open")):
            for _, _, thing, outcome in makings[1:6]:
                self.both(made, ("gives", maker, thing, outcome), word)
        self.both(made, ("as", "a", "b"), "open")
        self.both(made, ("as", "a", "d"), "never")
        self.both(made, ("right", "a", 0, 0), "never")
        self.both(made, ("right", "a", 3, 0), "open")

    def test_what_is_not_told_does_not_hold(self):
        lot = random.Random(26)
        for _ in range(40):
            made = random_book(lot).with_lies(0)
            world = some_world(made)
            if world is not None:
                closing = Closing(made, made.all_notes(), None)
                for claim in all_claims(made):
                    if claim[0] != "apart":
                        self.assertIs(holds_for(world[1], claim), closing.has(claim))

    def test_books_by_lot(self):
        lot = random.Random(22)
        for at in range(160):
            made = (random_book if at % 2 else doubted_book)(lot)
            claims = all_claims(made)
            for claim in lot.sample(claims, min(3, len(claims))):
                self.both(made, claim, slow_answer(made, claim))
            world = some_world(made)
            name = made.things[0][0]
            self.assertIs(world is None, slow_answer(made, ("as", name, name)) == "broken")
            if world is not None:
                self.world(made, world)

    def test_full_books(self):
        for lies in (0, 4, 8):
            full = full_book(range(8), lies)
            self.world(full, some_world(full))
            self.both(full, ("right", "ta", 0, 1), "sure" if lies == 0 else "open")
            self.both(full, ("apart", "ta", "tb"), "sure" if lies == 0 else "open")
            self.both(full, ("gives", "ti", "tp", "sa"), "open")

    def test_as_many_ways_as_there_can_be(self):
        made = many_ways_book()
        self.world(made, some_world(made))
        self.both(made, ("right", "te", 0, 3), "open")
        self.both(made, ("right", "ta", 0, 0), "sure")

    def test_worlds_are_small(self):
        for made in (full_book(), many_ways_book()):
            for row in some_world(made)[1].values():
                # As point [26] has it.
                self.assertLess(len(row), 3000)

    def test_false_notes_are_told_as_the_book_has_them(self):
        made = told((), [("as", "a", "b"), ("apart", "a", "b"), ("as", "c", "a")], (0, 1, 2), 1)
        self.assertIn(some_world(made)[0], ((0,), (1,)))
        self.same(world_without(made, ("as", "a", "b"))[0], (0,))
        self.same(world_with(made, ("as", "a", "b"))[0], (1,))

    def test_new_worlds(self):
        for function, arguments in ((some_world, ()), (world_with, (("as", "b", "d"),)),
                                    (world_without, (("as", "b", "d"),))):
            first = function(ANSWERED, *arguments)
            wanted = dict(first[1])
            first[1].clear()
            self.same(function(ANSWERED, *arguments), (first[0], wanted))

    def test_wrong(self):
        for value in NO_BOOKS:
            self.wrong(BadBook, value, some_world, value)
            for function in (world_with, world_without):
                self.wrong(BadBook, value, function, value, ("as", "ann", "bob"))
                self.wrong(BadBook, value, function, value, None)
        for function in (world_with, world_without):
            for value in NO_CLAIMS:
                self.wrong(BadClaim, value, function, book(), value)
                self.wrong(BadClaim, value, function, EMPTY_BOOK, value)


if __name__ == "__main__":
    unittest.main()
