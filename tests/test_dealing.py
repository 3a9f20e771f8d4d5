"""[31] Deals of right shares."""

import itertools
import math
import random
import unittest
from fractions import Fraction

from servedall import dealing as d
from servedall.apart import ring_table
from servedall.corners import all_corners
from servedall.errors import InvalidOpening, Refused
from servedall.openings import price_of
from servedall.shares import cost_of, shares_of
from servedall.tables import Table, table_of
from servedall.ties import is_even
from support import (ANY, check_call, even_tables, openings_by_hand, pair_of, raised, random_prices, random_table,
                     right_shares, ringless_tables, some_tables, value_of)
from test_means import some_shares

RING = table_of("abc", "xyz", [("a", "x"), ("a", "y"), ("b", "y"), ("b", "z"), ("c", "x"), ("c", "z")])
PATH = table_of("abc", "xyz", [("a", "x"), ("a", "y"), ("b", "y"), ("b", "z"), ("c", "z")])
EMPTY = Table((), (), ())
HALF = ((1, 2),) * 3
HALVES = ((1, 2), (1, 2), (1, 1))


def is_deal_by_hand(table, shares, value):
    many = math.lcm(*[bottom for _, bottom in shares])
    if not isinstance(value, tuple) or len(value) != many:
        return False
    openings = openings_by_hand(table)
    if any(not isinstance(opening, tuple) or opening not in openings for opening in value):
        return False
    return all(sum(house in opening for opening in value) <= many * value_of(share)
               for house, share in zip(table.houses, shares))


def even_shares(dice, table, bottom):
    """Right shares with one bottom, before they are made shorter; also more than 1."""
    return right_shares(dice, table, [Fraction(dice.choice((0, 0, 1, bottom // 2, bottom, 2 * bottom)), bottom)
                                      for _ in table.houses])


class DealTest(unittest.TestCase):

    def check_shares(self, table, shares):
        value = check_call(self, d.deal, table=table, shares=shares)
        self.assertTrue(is_deal_by_hand(table, shares, value), (table.pairs, shares, value))
        self.assertIs(check_call(self, d.check_deal, table=table, shares=shares, value=value), True)
        mean = check_call(self, d.mean_of, table=table, openings=value)
        self.assertTrue(all(value_of(one) <= value_of(share) for one, share in zip(mean, shares)))
        prices = random_prices(random.Random(len(table.pairs)), table)
        best = check_call(self, d.cheapest_of, table=table, prices=prices, openings=value)
        self.assertLessEqual(price_of(table, prices, best), value_of(cost_of(prices, shares)))

    def test_example(self):
        self.assertEqual((d.check_deal(PATH, HALVES, (("y", "z"), ("x", "z"))),
                          d.check_deal(RING, HALF, (("x", "y"), ("y", "z")))), (True, False))

    def test_all_kinds(self):
        dice = random.Random(1)
        for table in itertools.chain(even_tables(2, 40, most=6), ringless_tables(3, 40, most=6), [EMPTY, PATH],
                                     filter(is_even, some_tables(4, 60, servable=True))):
            if all(any(one == name for one, _ in table.pairs) for name in table.people):
                for bottom in (1, 2, 3, 6, 12):
                    self.check_shares(table, even_shares(dice, table, bottom))
                shares = some_shares(dice, table)
                if math.lcm(*[bottom for _, bottom in shares]) <= 24:
                    self.check_shares(table, shares)

    def test_eight(self):
        dice = random.Random(5)
        for table in itertools.chain(ringless_tables(6, 10, most=8), [ring_table(8)]):
            self.check_shares(table, even_shares(dice, table, 24))
            self.check_shares(table, ((10 ** 11, 1),) * len(table.houses))
            self.check_shares(table, ((10 ** 11 + 1, 24),) * len(table.houses))
        for _ in range(20):
            table = random_table(dice, 8, 8, 0.85, servable=True)
            if is_even(table):
                self.check_shares(table, even_shares(dice, table, 24))

    def test_corners_of_even_tables_are_openings(self):
        for table in itertools.chain(even_tables(7, 20, most=4), ringless_tables(8, 20, most=4)):
            if all(any(one == name for one, _ in table.pairs) for name in table.people):
                for corner in all_corners(table):
                    self.assertTrue(all(bottom == 1 for _, bottom in corner))
                    self.check_shares(table, corner)

    def test_nobody(self):
        self.assertEqual(d.deal(EMPTY, ()), ((),))
        idle = Table((), ("x", "y"), ())
        self.assertIs(d.check_deal(idle, ((0, 1), (1, 3)), d.deal(idle, ((0, 1), (1, 3)))), True)
        self.assertIs(d.check_deal(idle, ((0, 1), (1, 3)), ((), (), ())), True)
        self.assertIs(d.check_deal(idle, ((0, 1), (1, 3)), (("x",), (), ())), False)


class CheckTest(unittest.TestCase):

    def test_all_tried(self):
        for table, shares in ((PATH, HALVES), (RING, HALF), (RING, ((1, 1), (1, 2), (1, 2))), (PATH, ((0, 1), (1, 1), (2, 1))),
                              (RING, ((1, 1),) * 3)):
            lots = [(), ("x",), ("x", "y"), ("x", "z"), ("y", "z"), ("x", "y", "z")]
            for many in (0, 1, 2, 3):
                for value in itertools.product(lots, repeat=many):
                    self.assertIs(d.check_deal(table=table, shares=shares, value=value),
                                  is_deal_by_hand(table, shares, value))

    def test_no_deal(self):
        for value in ([("y", "z"), ("x", "z")], (["y", "z"], ("x", "z")), (("z", "y"), ("x", "z")), None, "yz",
                      (("y", "z"),), (("y", "z"), ("x", "z", "z")), (("y", "z"), ("x", None)), (("y", "z"), None)):
            self.assertIs(d.check_deal(PATH, HALVES, value), False, value)

    def test_any_value(self):
        for value in ANY:
            self.assertIs(d.check_deal(PATH, HALVES, value), False)
            self.assertIs(d.check_deal(PATH, HALVES, (("y", "z"), value)), False)
            self.assertIs(d.check_deal(PATH, HALVES, (("y", "z"), ("x", value))), False)
            for table in (PATH, RING):
                for shares in (value, ((1, 1), value, (1, 1))):
                    if shares != ((1, 1), (1, 2), (1, 1)):
                        self.assertIs(raised(d.deal, table, shares)[0], InvalidOpening)
                        self.assertIs(raised(d.check_deal, table, shares, None)[0], InvalidOpening)


class ErrorTest(unittest.TestCase):

    def both(self, table, shares):
        first = raised(d.check_deal, table=table, shares=shares, value=None)
        if first[0] is not None:
            self.assertEqual(raised(d.deal, table=table, shares=shares), first)
        return first

    def test_shares_first(self):
        for table in (PATH, RING):
            for shares, kept in ((None, -1), (list(HALF), -1), ((), 0), (HALF[:2], 2), (HALF + HALF, 3), ((1, (0, 1)), 0),
                                 (((1, 2), (-1, 2), None), 1), (((1, 2), (2, 4), (1, 2)), 1), (((1, 2), (1, 2), (1, 0)), 2)):
                self.assertEqual(self.both(table, shares), (InvalidOpening, kept))

    def test_then_not_right(self):
        for table in (PATH, RING):
            for shares in (((0, 1),) * 3, ((1, 2), (1, 2), (1, 3)), ((1, 3),) * 3):
                self.assertEqual(self.both(table, shares), (Refused, "shares"))
        self.assertEqual(self.both(Table(("a",), (), ()), ()), (Refused, "shares"))

    def test_then_odd(self):
        for shares in (HALF, ((1, 1),) * 3, ((0, 1), (1, 1), (1, 1)), ((1, 10 ** 12 - 1), (1, 1), (1, 1))):
            self.assertEqual(raised(d.deal, table=RING, shares=shares), (Refused, "odd"))
            self.assertEqual(raised(d.check_deal, RING, shares, None), (None, False))


class MeanTest(unittest.TestCase):

    def test_mean(self):
        dice = random.Random(9)
        for table in some_tables(10, 60, servable=True):
            openings = tuple(dice.choice(openings_by_hand(table)) for _ in range(dice.randint(1, 6)))
            wanted = tuple(pair_of(Fraction(sum(house in one for one in openings), len(openings))) for house in table.houses)
            self.assertEqual(check_call(self, d.mean_of, table=table, openings=openings), wanted)
            self.assertEqual(d.mean_of(table, openings[:1]), shares_of(table, openings[0]))

    def test_cheapest(self):
        dice = random.Random(11)
        for table in some_tables(12, 60, servable=True):
            prices = random_prices(dice, table)
            openings = tuple(dice.choice(openings_by_hand(table)) for _ in range(dice.randint(1, 6)))
            costs = [price_of(table, prices, opening) for opening in openings]
            self.assertEqual(check_call(self, d.cheapest_of, table=table, prices=prices, openings=openings),
                             openings[costs.index(min(costs))])
        self.assertEqual(d.cheapest_of(PATH, (1, 1, 1), (("y", "z"), ("x", "z"))), ("y", "z"))
        self.assertEqual(d.cheapest_of(PATH, (1, 1, 1), (("x", "y", "z"), ("x", "z"), ("y", "z"))), ("x", "z"))


if __name__ == "__main__":
    unittest.main()
