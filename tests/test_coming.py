"""[71], [72] What comes, and prices that change nothing."""

import itertools
import random
import unittest

from servedall import coming as c
from servedall.apart import ring_table
from servedall.deeds import house_put, person_put
from servedall.errors import InvalidPrices, Refused
from servedall.middle import meets
from servedall.openings import least_openings, least_price
from servedall.prices import right_payments
from servedall.settling import least_shares
from servedall.tables import Table, table_of
from support import (ANY, HOUSES, check_call, even_tables, least_by_hand, openings_by_hand, pair_of, price_by_hand, raised,
                     random_prices, random_table, ringless_tables, some_tables, subsets, tables_of_size, value_of)

RING = table_of("abc", "xyz", [("a", "x"), ("a", "y"), ("b", "y"), ("b", "z"), ("c", "x"), ("c", "z")])
PATH = table_of("abc", "xyz", [("a", "x"), ("a", "y"), ("b", "y"), ("b", "z"), ("c", "z")])
LONE = Table(("a", "b"), ("x",), (("b", "x"),))
EMPTY = Table((), (), ())


def cases(seed, number):
    """Tables of all kinds in which each person has a house, and prices."""
    dice = random.Random(seed)
    for table in itertools.chain(tables_of_size(2, 2), tables_of_size(1, 3), some_tables(seed, number, most=4, servable=True),
                                 even_tables(seed, number, most=5), ringless_tables(seed, number, most=5),
                                 [RING, PATH, EMPTY, ring_table(5)]):
        if openings_by_hand(table):
            yield table, random_prices(dice, table)
            yield table, tuple(dice.randint(0, 3) for _ in table.houses)


class ComingTest(unittest.TestCase):

    def test_examples(self):
        self.assertEqual((c.rise_for(PATH, (2, 3, 4), ("y",)), c.worth(PATH, (2, 3, 4), ("a", "c")),
                          c.worth(PATH, (2, 3, 4), ("b",))), (1, 3, 0))

    def test_rise(self):
        for table, prices in cases(1, 30):
            least = least_by_hand(table, prices, table.people)
            for houses in subsets(table.houses):
                if houses:
                    more, costs = person_put(table, prices, "zz", houses)
                    rise = check_call(self, c.rise_for, table=table, prices=prices, houses=houses)
                    self.assertEqual(rise, least_by_hand(more, costs, more.people) - least)
                    self.assertEqual(c.rise_for(table, prices, list(houses[::-1] + houses)), rise)
                    cheapest = min(price_by_hand(table, prices, (house,)) for house in houses)
                    self.assertTrue(0 <= rise <= cheapest)

    def test_worth(self):
        for table, prices in cases(2, 30):
            least = least_by_hand(table, prices, table.people)
            for people in subsets(table.people):
                others = [name for name in table.people if name not in people]
                told = check_call(self, c.worth, table=table, prices=prices, people=people)
                self.assertEqual(told, least - least_by_hand(table, prices, others))
                self.assertEqual(c.worth(table, prices, list(people[::-1] + people)), told)
                for price, useful in ((told, True), (told + 1, False)):
                    more, costs = house_put(table, prices, "aaa", people, price)
                    found = any("aaa" in opening for opening in openings_by_hand(more)
                                if price_by_hand(more, costs, opening) == least_price(more, costs))
                    self.assertIs(found, useful)
                if meets(table, prices):
                    pays = least_shares(table, prices)[1]
                    self.assertGreaterEqual(sum(value_of(one) for name, one in zip(table.people, pays) if name in people), told)

    def test_nobody(self):
        self.assertEqual(c.worth(EMPTY, (), ()), 0)
        self.assertEqual(c.rise_for(Table((), ("x", "y"), ()), (3, 2), ("x", "y")), 2)

    def check(self, table, prices, wanted):
        self.assertEqual(raised(c.rise_for, table=table, prices=prices, houses=table.houses[:1]), wanted)
        self.assertEqual(raised(c.worth, table=table, prices=prices, people=()), wanted)

    def test_errors(self):
        for prices in (None, (1, 1), [1, 1, 1], (1, 1, 1, 1), "abc"):
            self.check(RING, prices, (InvalidPrices, -1))
            self.check(LONE, prices, (InvalidPrices, -1))
        for wrong in (-1, True, None, "1", (1, 1)):
            self.check(RING, (1, wrong, wrong), (InvalidPrices, 1))
            self.check(LONE, (wrong,), (InvalidPrices, 0))
        self.check(LONE, (1,), (Refused, "unserved"))
        for value in ANY:
            self.check(RING, value, (InvalidPrices, 0 if isinstance(value, tuple) and len(value) == 3 else -1))
            if type(value) is not int or value < 0:
                self.check(RING, (1, 1, value), (InvalidPrices, 2))


class SteadyTest(unittest.TestCase):

    def steady_prices(self, table, prices, at, is_so, most):
        """The pair (low, high) of all prices up to one at which something is so; high None if it is so at the last one."""
        so = [price for price in range(most + 1) if is_so(prices[:at] + (price,) + prices[at + 1:])]
        self.assertEqual(so, list(range(so[0], so[-1] + 1)))
        return (so[0], None if so[-1] == most else so[-1])

    def check_case(self, table, prices):
        most = sum(prices) + 2
        for opening in least_openings(table, prices):
            def is_least(costs):
                return price_by_hand(table, costs, opening) == least_by_hand(table, costs, table.people)
            told = check_call(self, c.steady_opening, table=table, prices=prices, opening=opening)
            self.assertEqual(told, tuple(self.steady_prices(table, prices, at, is_least, most)
                                         for at in range(len(prices))))
        payments = least_shares(table, prices)[1]
        if meets(table, prices):
            def are_steady(costs):
                return (right_payments(table, costs, payments)
                        and sum(map(value_of, payments)) == least_by_hand(table, costs, table.people))
            told = check_call(self, c.steady_payments, table=table, prices=prices, payments=payments)
            self.assertEqual(told, tuple(self.steady_prices(table, prices, at, are_steady, most)
                                         for at in range(len(prices))))

    def test_examples(self):
        self.assertEqual(c.steady_opening(PATH, (2, 3, 4), ("x", "z")), ((0, 3), (2, None), (0, None)))
        self.assertEqual(c.steady_payments(PATH, (2, 3, 4), ((2, 1), (1, 1), (3, 1))), ((2, 2), (3, None), (4, 4)))

    def test_all_kinds(self):
        for table, prices in cases(3, 25):
            if sum(prices) < 12:
                self.check_case(table, prices)

    def test_payments_that_are_not_whole(self):
        table = table_of("ab", "xyz", [("a", "x"), ("b", "x"), ("a", "y"), ("b", "z")])
        half = ((1, 2), (1, 2))
        self.assertEqual(c.steady_payments(table, (1, 1, 1), half), ((1, 1), (1, None), (1, None)))
        twice = table_of("ab", "wxyz", list(table.pairs) + [("a", "w"), ("b", "w")])
        self.assertEqual(c.steady_payments(twice, (1, 1, 1, 1), half), ((1, None), (1, None), (1, None), (1, None)))
        third = table_of("abc", "xyz", [(name, house) for name in "abc" for house in "xy"] + [("a", "z"), ("b", "z")])
        self.assertEqual(c.steady_payments(third, (2, 2, 4), ((2, 3),) * 3), ((2, None), (2, None), (2, None)))

    def test_great_prices(self):
        dice = random.Random(4)
        table = random_table(dice, 8, 8, 0.4, servable=True)
        prices = tuple(dice.randint(10 ** 5, 10 ** 6 - 1) for _ in range(8))
        for opening in least_openings(table, prices):
            for at, (low, high) in enumerate(c.steady_opening(table, prices, opening)):
                for price, steady in ((low, True), (low - 1, False), (high, True), (high and high + 1, False)):
                    if price is not None and price >= 0:
                        costs = prices[:at] + (price,) + prices[at + 1:]
                        self.assertIs(opening in least_openings(table, costs), steady)

    def test_edges(self):
        # Free houses, alike ones, houses that serve nobody, a table of nobody.
        self.assertEqual(c.steady_opening(Table((), ("x", "y"), ()), (0, 3), ("x",)), ((0, 0), (0, None)))
        self.assertEqual(c.steady_payments(Table((), ("x", "y"), ()), (0, 3), ()), ((0, None), (0, None)))
        one = Table(("a",), ("x",), (("a", "x"),))
        self.assertEqual((c.steady_opening(one, (5,), ("x",)), c.steady_payments(one, (5,), ((5, 1),))),
                         (((0, None),), ((5, 5),)))
        two = table_of("a", HOUSES[-2:], [("a", "y"), ("a", "z")])
        self.assertEqual((c.steady_opening(two, (5, 5), ("y",)), c.steady_payments(two, (5, 5), ((5, 1),))),
                         (((0, 5), (5, None)), ((5, None), (5, None))))
        self.assertEqual(pair_of(5), (5, 1))


if __name__ == "__main__":
    unittest.main()
