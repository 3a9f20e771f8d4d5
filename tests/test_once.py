"""[60], [61] Houses that serve each person just once, tilts, and dues."""

import itertools
import random
import unittest

from servedall import once as o
from servedall.apart import ring_table
from servedall.errors import InvalidPrices, Refused
from servedall.tables import Table, left, table_of
from servedall.ties import is_even
from support import (ANY, check_call, even_tables, price_by_hand, raised, random_prices, random_table, ringless_tables,
                     rings_by_hand, some_tables, subsets, tables_of_size)

RING = table_of("abc", "xyz", [("a", "x"), ("a", "y"), ("b", "y"), ("b", "z"), ("c", "x"), ("c", "z")])
PATH = table_of("abc", "xyz", [("a", "x"), ("a", "y"), ("b", "y"), ("b", "z"), ("c", "z")])
STAR = table_of("abc", "xy", [("a", "x"), ("b", "x"), ("b", "y"), ("c", "y")])
EMPTY = Table((), (), ())


def once_by_hand(table):
    """All lots of houses that serve each person just once."""
    return [lot for lot in subsets(table.houses)
            if all(sum((name, house) in table.pairs for house in lot) == 1 for name in table.people)]


def sums_by_hand(table, numbers):
    """What the people of each house have together."""
    return [sum(one for name, one in zip(table.people, numbers) if (name, house) in table.pairs) for house in table.houses]


def is_tilt_by_hand(table, numbers):
    return sum(numbers) > 0 and all(one <= 0 for one in sums_by_hand(table, numbers))


class OnceTest(unittest.TestCase):

    def test_examples(self):
        self.assertEqual((o.all_once(PATH), o.check_tilt(PATH, (0, 0, 1)),
                          o.once_or_tilt(table_of("ab", "xy", (("a", "x"), ("b", "x"), ("b", "y"))))),
                         ((("x", "z"),), False, ("once", ("x",))))
        self.assertEqual((o.check_tilt(STAR, (1, -1, 1)), o.once_or_tilt(STAR)[0]), (True, "tilt"))
        self.assertEqual((o.are_dues(PATH, (2, 1, 4), (2, -1, 5)), o.check_once(PATH, (2, 1, 4), ("x", "z"), (2, -1, 5))), (True, True))

    def test_all_small_tables(self):
        for table in itertools.chain(tables_of_size(3, 2), tables_of_size(2, 3), some_tables(1, 100), [EMPTY, RING, PATH, STAR]):
            lots = once_by_hand(table)
            self.assertEqual(check_call(self, o.all_once, table=table), tuple(sorted(lots)))
            for lot in subsets(table.houses):
                self.assertIs(check_call(self, o.is_once, table=table, value=lot), lot in lots)

    def test_wrong_lots(self):
        self.assertIs(o.is_once(PATH, ("x", "z")), True)
        for value in (["x", "z"], ("z", "x"), ("x", "z", "z"), ("x",), ("x", "y", "z"), (), ("q",), "xz", None, (True, "z")):
            self.assertIs(o.is_once(PATH, value), False, value)
        for value in ANY:
            self.assertIs(o.is_once(PATH, value), False)
            self.assertIs(o.is_once(PATH, ("x", value)), False)
            self.assertIs(o.is_once(EMPTY, value), isinstance(value, tuple) and value == ())

    def test_houses_that_serve_nobody(self):
        # They serve nobody twice: so they may be there or not.
        table = table_of("a", "xyz", [("a", "y")])
        self.assertEqual(o.all_once(table), (("x", "y"), ("x", "y", "z"), ("y",), ("y", "z")))
        self.assertEqual(o.all_once(Table((), ("x",), ())), ((), ("x",)))
        self.assertEqual(o.all_once(Table(("a",), ("x",), ())), ())


class TiltTest(unittest.TestCase):

    def check_table(self, table):
        """Some of both, if the table is even; never both."""
        lots = once_by_hand(table)
        tilts = [numbers for numbers in itertools.product((-2, -1, 0, 1, 2), repeat=min(4, len(table.people)))
                 if len(table.people) <= 4 and is_tilt_by_hand(table, numbers)]
        self.assertTrue(not lots or not tilts)
        if not is_even(table):
            self.assertEqual(raised(o.once_or_tilt, table=table), (Refused, "odd"))
            return None
        word, made = check_call(self, o.once_or_tilt, table=table)
        self.assertEqual(word, "once" if lots else "tilt")
        if lots:
            self.assertIn(made, lots)
            self.assertIs(o.is_once(table, made), True)
        else:
            self.assertTrue(is_tilt_by_hand(table, made))
            self.assertIs(check_call(self, o.check_tilt, table=table, value=made), True)
        return word

    def test_all_kinds(self):
        words = [self.check_table(table) for table in itertools.chain(
            tables_of_size(3, 3), some_tables(2, 100), even_tables(3, 60), ringless_tables(4, 60),
            [EMPTY, Table(("a",), (), ()), Table((), ("x",), ()), Table(("a", "b"), ("x",), ()), ring_table(6), ring_table(8)])]
        for word in ("once", "tilt", None):
            self.assertGreater(words.count(word), 5)

    def test_ten(self):
        dice = random.Random(5)
        for table in itertools.chain(even_tables(6, 20, most=10), ringless_tables(7, 20, most=10)):
            self.check_table(table)
        for _ in range(20):
            table = random_table(dice, 10, 12, 0.12)
            if is_even(table):
                self.check_table(table)

    def test_odd_rings_have_neither(self):
        for many in (3, 5):
            table = ring_table(many)
            self.assertEqual(once_by_hand(table), [])
            self.assertFalse(any(is_tilt_by_hand(table, numbers) for numbers in itertools.product((-2, -1, 0, 1, 2), repeat=many)))

    def test_even_exactly_if_each_part_has_one(self):
        numbers = {many: list(itertools.product((-2, -1, 0, 1, 2), repeat=many)) for many in range(5)}
        for table in some_tables(8, 40, most=4):
            parts = [left(table, people, houses) for people in subsets(table.people) for houses in subsets(table.houses)]
            found = all(once_by_hand(part) or any(is_tilt_by_hand(part, some) for some in numbers[len(part.people)]) for part in parts)
            self.assertIs(found, all(len(people) % 2 == 0 for people, _ in rings_by_hand(table)))

    def test_all_tilts_of_small_tables(self):
        for table in itertools.chain(tables_of_size(2, 2), some_tables(9, 30, most=3), [STAR, EMPTY]):
            for numbers in itertools.product((-1, 0, 1, 2), repeat=len(table.people)):
                self.assertIs(check_call(self, o.check_tilt, table=table, value=numbers), is_tilt_by_hand(table, numbers))

    def test_wrong_tilts(self):
        for value in ([1, -1, 1], (1, -1), (1, -1, 1, 0), (1, -1, True), (1, 0, -1), (0, 0, 0), (1, -1, 2), ((1, 1), (-1, 1), (1, 1)),
                      (1, -1, None), "abc", None):
            self.assertIs(o.check_tilt(STAR, value), False, value)
        self.assertIs(o.check_tilt(STAR, (10 ** 11, -10 ** 11, 10 ** 11)), True)
        self.assertIs(o.check_tilt(EMPTY, ()), False)
        self.assertIs(o.check_tilt(Table(("a",), (), ()), (1,)), True)
        for value in ANY:
            self.assertIs(o.check_tilt(STAR, value), False)
            self.assertIs(o.check_tilt(STAR, (1, -1, value)), type(value) is int and value == 1)
            self.assertIs(o.check_tilt(STAR, (0, value, 1)), False)


class DuesTest(unittest.TestCase):

    def test_all_dues_of_small_tables(self):
        dice = random.Random(10)
        for table in itertools.chain(tables_of_size(2, 2), some_tables(11, 40, most=3), [PATH, EMPTY]):
            prices = tuple(dice.randint(0, 2) for _ in table.houses)
            lots = once_by_hand(table)
            for dues in itertools.product((-1, 0, 1, 2), repeat=len(table.people)):
                wanted = all(one <= price for one, price in zip(sums_by_hand(table, dues), prices))
                self.assertIs(check_call(self, o.are_dues, table=table, prices=prices, value=dues), wanted)
                for lot in subsets(table.houses):
                    meets = wanted and lot in lots and sum(dues) == price_by_hand(table, prices, lot)
                    self.assertIs(o.check_once(table=table, prices=prices, once=lot, dues=dues), meets)
                    self.assertTrue(not wanted or lot not in lots or sum(dues) <= price_by_hand(table, prices, lot))

    def test_wrong_dues(self):
        for value in ([2, -1, 5], (2, -1), (2, -1, 5, 0), (2, 0, 5), (2, -1, True), (2, -1, (5, 1)), (2, -1, None), None):
            self.assertIs(o.are_dues(PATH, (2, 1, 4), value), False, value)
            self.assertIs(o.check_once(PATH, (2, 1, 4), ("x", "z"), value), False)
        for value in (["x", "z"], ("z", "x"), ("y", "z"), ("x",), (), None):
            self.assertIs(o.check_once(PATH, (2, 1, 4), value, (2, -1, 5)), False)
        self.assertIs(o.check_once(PATH, (2, 1, 4), ("x", "z"), (2, -1, 4)), False)
        for value in ANY:
            self.assertIs(o.are_dues(PATH, (2, 1, 4), value), False)
            self.assertIs(o.are_dues(PATH, (2, 1, 4), (2, -1, value)), type(value) is int and value <= 5)
            self.assertIs(o.check_once(PATH, (2, 1, 4), value, (2, -1, 5)), False)
            self.assertIs(o.check_once(PATH, (2, 1, 4), ("x", "z"), value), False)
            self.assertIs(o.check_once(PATH, (2, 1, 4), ("x", value), (2, -1, 5)), False)

    def check_least(self, table, prices):
        lots = once_by_hand(table)
        call = {"table": table, "prices": prices}
        if not is_even(table):
            self.assertEqual(raised(o.least_once, **call), (Refused, "odd"))
        elif not lots:
            self.assertEqual(raised(o.least_once, **call), (Refused, "tilt"))
        else:
            lot, dues = check_call(self, o.least_once, **call)
            self.assertIn(lot, lots)
            self.assertEqual((price_by_hand(table, prices, lot), sum(dues)),
                             (min(price_by_hand(table, prices, one) for one in lots),) * 2)
            self.assertTrue(all(one <= price for one, price in zip(sums_by_hand(table, dues), prices)))
            self.assertIs(check_call(self, o.check_once, **call, once=lot, dues=dues), True)

    def test_least_once(self):
        dice = random.Random(12)
        for table in itertools.chain(tables_of_size(3, 3), some_tables(13, 100), even_tables(14, 60), ringless_tables(15, 60),
                                     [EMPTY, Table((), ("x", "y"), ()), table_of("a", "xyz", [("a", "y")]), ring_table(8)]):
            self.check_least(table, random_prices(dice, table))
        for table in itertools.chain(even_tables(16, 20, most=10), ringless_tables(17, 20, most=10)):
            self.check_least(table, tuple(dice.randint(0, 10 ** 6 - 1) for _ in table.houses))
            self.check_least(table, (0,) * len(table.houses))

    def test_dues_below_zero(self):
        # The middle house is cheap, but goes with no other one: so its people owe less than nothing in sum.
        table = table_of("abcd", "wxyz", [("a", "w"), ("b", "w"), ("b", "x"), ("c", "x"), ("c", "y"), ("d", "y"), ("a", "z"), ("d", "z")])
        self.check_least(table, (9, 0, 9, 30))
        self.assertEqual(o.least_once(table, (9, 0, 9, 30))[0], ("w", "y"))


class ErrorTest(unittest.TestCase):

    def check(self, table, prices, wanted):
        self.assertEqual(raised(o.are_dues, table=table, prices=prices, value=None), wanted)
        self.assertEqual(raised(o.check_once, table=table, prices=prices, once=None, dues=None), wanted)
        self.assertEqual(raised(o.least_once, table=table, prices=prices), wanted)

    def test_prices_then_odd_then_tilt(self):
        for prices in (None, (1, 1), [1, 1, 1], (1, 1, 1, 1), "abc"):
            self.check(RING, prices, (InvalidPrices, -1))
            self.check(STAR, (prices,), (InvalidPrices, -1))
        for wrong in (-1, True, None, "1", (1, 1)):
            self.check(RING, (1, wrong, wrong), (InvalidPrices, 1))
            self.check(STAR, (wrong, 1), (InvalidPrices, 0))
        self.assertEqual(raised(o.least_once, RING, (1, 1, 1)), (Refused, "odd"))
        # An odd ring, and somebody without a house, which is a tilt.
        self.assertEqual(raised(o.least_once, table_of("abcd", "xyz", RING.pairs), (1, 1, 1)), (Refused, "odd"))
        self.assertEqual(raised(o.once_or_tilt, table_of("abcd", "xyz", RING.pairs)), (Refused, "odd"))
        self.assertEqual(raised(o.least_once, STAR, (1, 1)), (Refused, "tilt"))

    def test_any_value(self):
        for value in ANY:
            self.check(RING, value, (InvalidPrices, 0 if isinstance(value, tuple) and len(value) == 3 else -1))
            if type(value) is not int or value < 0:
                self.check(RING, (1, 1, value), (InvalidPrices, 2))


if __name__ == "__main__":
    unittest.main()
