"""[5], [6] Fractions."""

import random
import unittest
from fractions import Fraction

from servedall import fractions as f
from servedall.errors import InvalidFraction, InvalidSize, InvalidText
from support import ANY, pair_of, raised, value_of

GREAT = 10 ** 60 - 1


def some_fractions(seed, number):
    dice = random.Random(seed)
    for _ in range(number):
        most = dice.choice((1, 3, 12, 10 ** 12, GREAT))
        yield pair_of(Fraction(dice.randint(-most, most), dice.randint(1, most)))


class NeedTest(unittest.TestCase):

    def test_fractions(self):
        for one in ((0, 1), (1, 1), (-1, 1), (-3, 4), (GREAT, GREAT - 1), (GREAT, 1)):
            self.assertEqual(raised(f.need_fraction, one), (None, None))
            self.assertIs(f.is_fraction(one), True)
        self.assertEqual((f.ZERO, f.ONE), ((0, 1), (1, 1)))

    def test_no_pair_of_integers(self):
        for value in (None, 1, True, "1/2", [1, 2], (1,), (1, 2, 3), (), ("1", 2), (True, 1), (1, True), (1, None),
                      ((1, 2), 1), [], (1, [2]), (0, False)):
            self.assertEqual(raised(f.need_fraction, value), (InvalidFraction, -1), value)
            self.assertIs(f.is_fraction(value), False)

    def test_bottom_comes_before_divisor(self):
        for value in ((1, 0), (0, 0), (2, -4), (1, -1), (0, -1)):
            self.assertEqual(raised(f.need_fraction, value), (InvalidFraction, 1), value)

    def test_divisors(self):
        for value in ((2, 4), (0, 2), (-3, 9), (GREAT * 2, GREAT), (10 ** 4000 - 1, 3)):
            self.assertEqual(raised(f.need_fraction, value), (InvalidFraction, 0), value)

    def test_any_value(self):
        for value in ANY:
            error, _ = raised(f.need_fraction, value=value)
            self.assertIs(f.is_fraction(value=value), error is None)


class WorthTest(unittest.TestCase):

    def test_fraction(self):
        self.assertEqual(f.fraction(6, -4), (-3, 2))
        self.assertEqual(f.fraction(top=0, bottom=-7), (0, 1))
        self.assertEqual(f.fraction(-6, -3), (2, 1))
        self.assertEqual(f.whole(number=-5), (-5, 1))
        for top in (0, 1, -3):
            self.assertEqual(raised(f.fraction, top, 0), (InvalidSize, "bottom"))

    def test_sums_and_products(self):
        some = list(some_fractions(1, 60))
        for one, other in zip(some, reversed(some)):
            left, right = value_of(one), value_of(other)
            self.assertEqual(f.plus(one, other), pair_of(left + right))
            self.assertEqual(f.minus(one=one, other=other), pair_of(left - right))
            self.assertEqual(f.times(one, other), pair_of(left * right))
            self.assertEqual(f.compared(one, other), (left > right) - (left < right))
            if right:
                self.assertEqual(f.over(one, other), pair_of(left / right))

    def test_equal_ones(self):
        for one in some_fractions(4, 30):
            self.assertEqual((f.compared(one=one, other=one), f.minus(one, one)), (0, (0, 1)))
            self.assertIs(type(f.compared(one, one)), int)

    def test_over_nothing(self):
        self.assertEqual(raised(f.over, (1, 2), (0, 1)), (InvalidSize, "bottom"))
        self.assertEqual(raised(f.over, one=(0, 1), other=(0, 1)), (InvalidSize, "bottom"))

    def test_of_one(self):
        for one in some_fractions(2, 60):
            worth = value_of(one)
            self.assertEqual(f.negative(one=one), pair_of(-worth))
            self.assertEqual(f.sign_of(one=one), (worth > 0) - (worth < 0))
            self.assertEqual(f.floor_of(one=one), worth.__floor__())
            self.assertEqual(f.ceiling_of(one=one), worth.__ceil__())
            self.assertIs(type(f.sign_of(one)), int)
        self.assertEqual((f.floor_of((-1, 2)), f.ceiling_of((-1, 2)), f.floor_of((4, 1)), f.ceiling_of((4, 1))),
                         (-1, 0, 4, 4))
        self.assertEqual(f.negative((0, 1)), (0, 1))

    def test_of_some(self):
        for number in range(1, 12):
            some = list(some_fractions(number, number))
            for form in (some, tuple(some)):
                self.assertEqual(f.total_of(form), pair_of(sum(map(value_of, some))))
                self.assertEqual(f.least_of(form), pair_of(min(map(value_of, some))))
                self.assertEqual(f.greatest_of(some=form), pair_of(max(map(value_of, some))))
            self.assertEqual(some, list(some_fractions(number, number)))

    def test_least_goes_by_worth(self):
        self.assertEqual(f.least_of([(1, 1), (1, 2), (2, 3)]), (1, 2))
        self.assertEqual(f.greatest_of([(2, 3), (1, 1), (5, 6)]), (1, 1))

    def test_of_none(self):
        for none in ([], ()):
            self.assertEqual(f.total_of(none), (0, 1))
            self.assertEqual(raised(f.least_of, none), (InvalidSize, "some"))
            self.assertEqual(raised(f.greatest_of, none), (InvalidSize, "some"))


class TextTest(unittest.TestCase):

    def test_there_and_back(self):
        for one in some_fractions(3, 80):
            text = f.fraction_text(one=one)
            self.assertEqual(text, str(value_of(one)))
            self.assertEqual(f.read_fraction(value=text), one)

    def test_no_text_of_a_fraction(self):
        for text in ("", "-", "/", "1/", "/2", "1/1", "2/4", "0/1", "0/2", "-0", "00", "01", "1/02", "1/0", "1/-2",
                     "+1", " 1", "1 ", "1/2/3", "1_0", "--1", "1.5", "\u0661", "\u00b2", "a", "1\n", "-/2", "1/2 "):
            self.assertEqual(raised(f.read_fraction, text), (InvalidText, 0), text)

    def test_no_string(self):
        for value in ANY:
            error, kept = raised(f.read_fraction, value)
            if not isinstance(value, str):
                self.assertEqual((error, kept), (InvalidText, -1))
            elif value != "1/2":
                self.assertEqual((error, kept), (InvalidText, 0), value)


if __name__ == "__main__":
    unittest.main()
