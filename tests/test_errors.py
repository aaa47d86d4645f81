"""The interface of trulymade/errors.py."""

import unittest

from trulymade import errors

WITH_VALUE = ["BadName", "BadRow", "BadThing", "BadForm", "BadSign", "BadRule", "BadText",
              "BadParts", "BadOthers", "BadCount", "BadBook", "BadFlag", "BadPlace", "BadClaim",
              "BadWorld", "BadKept", "BadWord", "NoPaper", "BadPlanned", "BadClaims"]
WITHOUT = ["Clashes", "TooMany", "TooLong", "Finished", "NothingDone"]

VALUES = [0, 1, -1, 10 ** 5000, True, False, None, "", "a\nb", (), [], [1, [True]], (1, "x"),
          ("things", -1), {}, {1: [2]}]


class TestErrors(unittest.TestCase):
    def test_there_are_twenty_five(self):
        self.assertEqual(len(WITH_VALUE + WITHOUT), 25)
        for name in WITH_VALUE + WITHOUT:
            self.assertEqual(getattr(errors, name).__module__, "trulymade.errors")

    def test_each_stands_directly_below_made_error(self):
        self.assertEqual(errors.MadeError.__bases__, (ValueError,))
        for name in WITH_VALUE + WITHOUT:
            self.assertEqual(getattr(errors, name).__bases__, (errors.MadeError,), name)

    def test_none_is_one_of_the_others(self):
        for name in WITH_VALUE + WITHOUT:
            for other in WITH_VALUE + WITHOUT:
                below = issubclass(getattr(errors, name), getattr(errors, other))
                self.assertIs(below, name == other)

    def test_value_is_what_was_handed_in(self):
        for name in WITH_VALUE:
            for value in VALUES:
                error = getattr(errors, name)(value)
                self.assertIs(error.value, value, name)
                self.assertIsInstance(error, errors.MadeError)
                self.assertIsInstance(error, ValueError)

    def test_value_is_none_without_an_argument(self):
        for name in WITHOUT:
            error = getattr(errors, name)()
            self.assertIsNone(error.value, name)
            self.assertIsInstance(error, errors.MadeError)
            self.assertIsInstance(error, ValueError)

    def test_they_are_raised_and_caught_by_name(self):
        for name in WITH_VALUE:
            kind = getattr(errors, name)
            with self.assertRaises(kind) as caught:
                raise kind([7])
            self.assertEqual(caught.exception.value, [7])
        for name in WITHOUT:
            with self.assertRaises(getattr(errors, name)):
                raise getattr(errors, name)()


if __name__ == "__main__":
    unittest.main()
