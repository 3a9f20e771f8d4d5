"""[4] The errors."""

import unittest

from servedall import errors
from servedall.tables import Table

AT = ("InvalidFraction", "InvalidTable", "InvalidPrices", "InvalidOpening", "InvalidPayments", "InvalidRing",
      "InvalidRoads", "InvalidText")
WORD = ("InvalidSize", "Refused")


class ErrorsTest(unittest.TestCase):

    def test_base(self):
        self.assertEqual(errors.ServeError.__bases__, (Exception,))
        self.assertEqual(errors.NoName.__bases__, (KeyError,))
        self.assertFalse(issubclass(errors.NoName, errors.ServeError))

    def test_all_derive_from_the_base_alone(self):
        for name in AT + WORD + ("InvalidCommand",):
            self.assertEqual(getattr(errors, name).__bases__, (errors.ServeError,), name)

    def test_what_they_keep_is_the_argument_itself(self):
        for thing in (None, 0, True, [1, [2]], ("a", 1), "word", Table([], 1, ())):
            for names, attribute in ((AT, "at"), (WORD, "word"), (("NoName",), "name")):
                for name in names:
                    self.assertIs(getattr(getattr(errors, name)(thing), attribute), thing)
                    self.assertIs(getattr(getattr(errors, name)(**{attribute: thing}), attribute), thing)

    def test_kept_lists_stay_the_same_lists(self):
        things = [1]
        error = errors.NoName(things)
        things.append(2)
        self.assertEqual(error.name, [1, 2])

    def test_command_takes_nothing(self):
        self.assertIsInstance(errors.InvalidCommand(), errors.ServeError)

    def test_they_can_be_raised_and_caught(self):
        with self.assertRaises(errors.ServeError):
            raise errors.Refused("unserved")
        with self.assertRaises(KeyError):
            raise errors.NoName("ann")


if __name__ == "__main__":
    unittest.main()
