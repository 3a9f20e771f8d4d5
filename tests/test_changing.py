"""[29] How the least cost of shares changes."""

import random
import unittest
from fractions import Fraction

from servedall.apart import ring_table
from servedall.changing import cost_line, least_cost
from servedall.corners import all_corners
from servedall.errors import NoName, Refused
from servedall.prices import repriced, sum_of
from servedall.settling import least_shares
from servedall.shares import cost_of
from servedall.tables import Table, table_of
from support import ANY, check_call, pair_of, raised, random_prices, random_table, some_tables, value_of

RING = table_of("abc", "xyz", [("a", "x"), ("a", "y"), ("b", "y"), ("b", "z"), ("c", "x"), ("c", "z")])
LONE = Table(("a", "b"), ("x",), (("b", "x"),))


def cost_by_hand(table, prices):
    """The least cost that a corner has; prices may be fractions of Python's own."""
    return min(sum(price * value_of(share) for price, share in zip(prices, corner)) for corner in all_corners(table))


class LeastTest(unittest.TestCase):

    def cost(self, table, prices):
        return value_of(check_call(self, least_cost, table=table, prices=prices))

    def test_least(self):
        dice = random.Random(1)
        for table in some_tables(2, 80, servable=True):
            prices, others = random_prices(dice, table), random_prices(dice, table)
            cost = self.cost(table, prices)
            self.assertEqual(cost, cost_by_hand(table, prices))
            both = self.cost(table, tuple(one + other for one, other in zip(prices, others)))
            self.assertGreaterEqual(both, cost + self.cost(table, others))
            self.assertEqual(self.cost(table, tuple(3 * price for price in prices)), 3 * cost)

    def test_eight(self):
        dice = random.Random(6)
        for density in (0.3, 0.6):
            table = random_table(dice, 8, 8, density, servable=True)
            prices = tuple(dice.randint(0, 10 ** 6) for _ in range(8))
            shares, payments = least_shares(table, prices)
            self.assertEqual(least_cost(table, prices), cost_of(prices, shares))
            self.assertEqual(least_cost(table, prices), sum_of(payments))

    def test_rings(self):
        for size in range(3, 9):
            self.assertEqual(least_cost(ring_table(size), (1,) * size), pair_of(Fraction(size, 2)))

    def test_edges(self):
        self.assertEqual(least_cost(Table((), (), ()), ()), (0, 1))
        self.assertEqual(least_cost(Table((), ("x",), ()), (7,)), (0, 1))
        self.assertEqual(raised(least_cost, table=LONE, prices=(1,)), (Refused, "unserved"))


class LineTest(unittest.TestCase):

    def check_line(self, table, prices, house):
        line = check_call(self, cost_line, table=table, prices=prices, house=house)
        told = [tuple(map(value_of, row)) for row in line]
        self.assertEqual(told[0][0], 0)
        for (price, _, slope), (other, _, lesser) in zip(told, told[1:]):
            self.assertLess(price, other)
            self.assertGreater(slope, lesser)
        self.assertGreaterEqual(told[-1][2], 0)
        tried = [row[0] for row in told]
        tried += [(one + other) / 2 for one, other in zip(tried, tried[1:])] + [tried[-1] + 1, tried[-1] + 10 ** 7]
        for price in tried:
            at, cost, slope = max(row for row in told if row[0] <= price)
            self.assertEqual(cost + (price - at) * slope, cost_by_hand(table, repriced(table, prices, house, price)))
        whole = [price for price in tried if price.denominator == 1]
        costs = [value_of(least_cost(table, repriced(table, prices, house, int(price)))) for price in sorted(whole)]
        self.assertEqual(costs, sorted(costs))
        return line

    def test_example(self):
        self.assertEqual(cost_line(RING, (9, 1, 1), "x"), (((0, 1), (1, 1), (1, 2)), ((2, 1), (2, 1), (0, 1))))

    def test_all_kinds(self):
        dice = random.Random(3)
        for table in some_tables(4, 60, servable=True):
            for prices in (random_prices(dice, table), (1,) * len(table.houses), (0,) * len(table.houses)):
                for house in table.houses:
                    self.check_line(table, prices, house)

    def test_three_slopes(self):
        # First x and z are the cheapest, then a half of each house, then y and z.
        self.assertEqual(self.check_line(RING, (9, 2, 1), "x"),
                         (((0, 1), (1, 1), (1, 1)), ((1, 1), (2, 1), (1, 2)), ((3, 1), (3, 1), (0, 1))))

    def test_six_and_five(self):
        dice = random.Random(5)
        for density in (0.3, 0.5, 0.7):
            table = random_table(dice, 6, 5, density, servable=True)
            for house in table.houses:
                self.check_line(table, tuple(dice.randint(0, 10 ** 6) for _ in range(5)), house)

    def test_edges(self):
        only = Table(("a",), ("x", "y"), (("a", "x"),))
        self.assertEqual(cost_line(only, (5, 5), "x"), (((0, 1), (0, 1), (1, 1)),))
        self.assertEqual(cost_line(only, (5, 5), "y"), (((0, 1), (5, 1), (0, 1)),))
        self.assertEqual(cost_line(Table((), ("x",), ()), (5,), "x"), (((0, 1), (0, 1), (0, 1)),))

    def test_no_house_then_unserved(self):
        for value in ANY + ["a", "xx", ("x",), ["x"]]:
            for table, prices in ((RING, (1, 1, 1)), (LONE, (1,)), (Table((), (), ()), ())):
                error, kept = raised(cost_line, table, prices, value)
                self.assertIs(error, NoName)
                self.assertIs(kept, value)
        self.assertEqual(raised(cost_line, table=LONE, prices=(1,), house="x"), (Refused, "unserved"))


if __name__ == "__main__":
    unittest.main()
