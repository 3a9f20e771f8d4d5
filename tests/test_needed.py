"""[15] Houses that are useful, or needed, and up to which price."""

import itertools
import random
import unittest

from servedall import needed as n
from servedall.errors import Refused
from servedall.openings import least_price
from servedall.prices import repriced
from servedall.tables import Table, table_of
from support import (check_call, openings_by_hand, price_by_hand, raised, random_prices, random_table, some_tables,
                     tables_of_size)

TOWN = table_of("pqr", "xyz", [("p", "x"), ("p", "z"), ("q", "x"), ("q", "y"), ("r", "y"), ("r", "z")])


class NeededTest(unittest.TestCase):

    def check_table(self, table, prices):
        openings = openings_by_hand(table)
        costs = {opening: price_by_hand(table, prices, opening) for opening in openings}
        best = [opening for opening in openings if costs[opening] == min(costs.values())]
        for house in table.houses:
            call = {"table": table, "prices": prices, "house": house}
            self.assertEqual(check_call(self, n.with_house, **call),
                             min([costs[opening] for opening in openings if house in opening], default=None))
            self.assertEqual(check_call(self, n.without_house, **call),
                             min([costs[opening] for opening in openings if house not in opening], default=None))
        self.assertEqual(check_call(self, n.useful_houses, table=table, prices=prices),
                         tuple(h for h in table.houses if any(h in opening for opening in best)))
        self.assertEqual(check_call(self, n.needed_houses, table=table, prices=prices),
                         tuple(h for h in table.houses if best and all(h in opening for opening in best)))

    def check_dearest(self, table, prices, house):
        call = {"table": table, "prices": prices, "house": house}
        openings = openings_by_hand(table)
        if not openings:
            self.assertEqual(raised(n.dearest, **call), (Refused, "unserved"))
            return
        most = check_call(self, n.dearest, **call)
        self.assertIs(most is None, all(house in opening for opening in openings))
        tried = [0, 1, 7, 10 ** 7] if most is None else [most, most + 1, most + 5, 0, max(0, most - 1)]
        for price in tried:
            then = repriced(table, prices, house, price)
            self.assertIs(house in n.useful_houses(table, then), most is None or price <= most)
            self.assertIs(house in n.needed_houses(table, then), most is None or price < most)
            at_zero = least_price(table, repriced(table, prices, house, 0))
            self.assertEqual(least_price(table, then), at_zero + (price if most is None else min(price, most)))

    def test_example(self):
        self.assertEqual((n.useful_houses(TOWN, (3, 2, 4)), n.needed_houses(TOWN, (3, 2, 4)),
                          n.dearest(TOWN, (3, 2, 4), "z")), (("x", "y"), ("x", "y"), 3))

    def test_all_small_tables(self):
        for many, houses in itertools.product(range(3), range(4)):
            for table in tables_of_size(many, houses):
                for prices in ((0, 1, 2)[:houses], (1, 1, 1)[:houses], (3, 0, 0)[:houses]):
                    self.check_table(table, prices)
                    for house in table.houses:
                        self.check_dearest(table, prices, house)

    def test_some_tables(self):
        dice = random.Random(1)
        for table in some_tables(2, 80):
            prices = random_prices(dice, table)
            self.check_table(table, prices)
            for house in table.houses:
                self.check_dearest(table, prices, house)

    def test_twelve(self):
        dice = random.Random(3)
        table = random_table(dice, 12, 12, 0.3, servable=True)
        self.check_table(table, tuple(dice.randint(0, 10 ** 12) for _ in range(12)))

    def test_no_opening(self):
        table = Table(("a", "b"), ("x", "y"), (("a", "x"),))
        for house in ("x", "y"):
            self.assertIsNone(n.with_house(table, (1, 1), house))
            self.assertIsNone(n.without_house(table, (1, 1), house))
            self.assertEqual(raised(n.dearest, table=table, prices=(1, 1), house=house), (Refused, "unserved"))
        self.assertEqual((n.useful_houses(table, (0, 0)), n.needed_houses(table, (0, 0))), ((), ()))

    def test_edges(self):
        nobody = Table((), ("x", "y"), ())
        self.assertEqual((n.useful_houses(nobody, (0, 1)), n.needed_houses(nobody, (0, 1))), (("x",), ()))
        self.assertEqual((n.with_house(nobody, (0, 5), "y"), n.without_house(nobody, (0, 5), "y")), (5, 0))
        self.assertEqual(n.dearest(nobody, (4, 5), "y"), 0)
        self.assertEqual((n.useful_houses(Table((), (), ()), ()), n.needed_houses(Table((), (), ()), ())), ((), ()))
        only = Table(("a",), ("x", "y"), (("a", "x"),))
        self.assertIsNone(n.dearest(only, (3, 0), "x"))
        self.assertIsNone(n.without_house(only, (3, 0), "x"))
        self.assertEqual(n.needed_houses(only, (0, 0)), ("x",))


if __name__ == "__main__":
    unittest.main()
