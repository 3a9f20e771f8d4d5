"""[65] Thinned openings, and openings by payments and by shares."""

import itertools
import random
import unittest
from fractions import Fraction

from servedall import thinning as t
from servedall.apart import dot_table, ring_table
from servedall.errors import Refused
from servedall.openings import is_opening, price_of
from servedall.paying import paid_in_turn, wholly_paid
from servedall.prices import sum_of
from servedall.shares import cost_of
from servedall.tables import Table, most_houses, table_of
from support import (check_call, openings_by_hand, raised, random_prices, random_table, serves_all, some_tables,
                     value_of)
from test_means import some_shares

EMPTY = Table((), (), ())


def thinned_by_hand(table, houses):
    houses = list(houses)
    for at in reversed(range(len(houses))):
        if serves_all(table, houses[:at] + houses[at + 1:], table.people):
            del houses[at]
    return tuple(sorted(houses))


class ThinningTest(unittest.TestCase):

    def test_example(self):
        five = ring_table(5)
        self.assertEqual((t.raised_opening(five, (1,) * 5), t.by_shares(five, ((1, 2),) * 5)),
                         (("a", "c", "e"), ("a", "b", "c", "d", "e")))

    def test_thinned(self):
        dice = random.Random(1)
        for table in some_tables(2, 80, servable=True):
            for opening in dice.sample(openings_by_hand(table), min(3, len(openings_by_hand(table)))):
                houses = tuple(dice.sample(opening, len(opening)))
                stay = check_call(self, t.thinned, table=table, houses=houses)
                self.assertEqual(stay, thinned_by_hand(table, houses))
                self.assertEqual(t.thinned(table, list(houses)), stay)
                self.assertTrue(is_opening(table, stay) and set(stay) <= set(houses))
                self.assertFalse(any(serves_all(table, set(stay) - {house}, table.people) for house in stay))

    def test_the_last_one_goes_first(self):
        table = table_of("ab", "xyz", itertools.product("ab", "xyz"))
        for houses in itertools.permutations("xyz"):
            self.assertEqual(t.thinned(table, houses), houses[:1])
        path = table_of("abc", "xyz", [("a", "x"), ("a", "y"), ("b", "y"), ("b", "z"), ("c", "z")])
        self.assertEqual(t.thinned(path, ("x", "y", "z")), ("x", "z"))
        self.assertEqual(t.thinned(path, ("y", "x", "z")), ("y", "z"))

    def test_raised(self):
        dice = random.Random(3)
        tables = list(some_tables(4, 100, most=6, servable=True)) + [dot_table(3), ring_table(10)]
        for table in tables + [random_table(dice, 10, 10, 0.4, servable=True)]:
            for prices in (random_prices(dice, table), (0,) * len(table.houses), (1,) * len(table.houses)):
                opening = check_call(self, t.raised_opening, table=table, prices=prices)
                paid = paid_in_turn(table, prices, table.people)
                self.assertEqual(opening, thinned_by_hand(table, wholly_paid(table, prices, paid)))
                self.assertTrue(is_opening(table, opening))
                self.assertLessEqual(price_of(table, prices, opening), most_houses(table) * value_of(sum_of(paid)))

    def test_by_shares(self):
        dice = random.Random(5)
        for table in some_tables(6, 100, servable=True):
            most = most_houses(table)
            shares = some_shares(dice, table)
            houses = check_call(self, t.by_shares, table=table, shares=shares)
            self.assertEqual(houses, tuple(house for house, share in zip(table.houses, shares)
                                           if most and value_of(share) >= Fraction(1, most)))
            self.assertTrue(is_opening(table, houses))
            prices = random_prices(dice, table)
            self.assertLessEqual(price_of(table, prices, houses), most * value_of(cost_of(prices, shares)))

    def test_just_enough(self):
        table = table_of("ab", "xyz", itertools.product("ab", "xyz"))
        self.assertEqual(t.by_shares(table, ((1, 3), (1, 3), (1, 3))), ("x", "y", "z"))
        self.assertEqual(t.by_shares(table, ((1, 3), (33, 100), (34, 100))), ("x", "z"))

    def test_edges(self):
        self.assertEqual((t.thinned(EMPTY, ()), t.raised_opening(EMPTY, ()), t.by_shares(EMPTY, ())), ((), (), ()))
        idle = Table((), ("x", "y"), ())
        self.assertEqual((t.thinned(idle, ("x", "y")), t.raised_opening(idle, (0, 1))), ((), ()))
        self.assertEqual(t.by_shares(idle, ((1, 1), (5, 1))), ())
        lone = Table(("a", "b"), ("x",), (("b", "x"),))
        self.assertEqual(raised(t.raised_opening, table=lone, prices=(1,)), (Refused, "unserved"))
        self.assertEqual(raised(t.raised_opening, Table(("a",), (), ()), ()), (Refused, "unserved"))


if __name__ == "__main__":
    unittest.main()
