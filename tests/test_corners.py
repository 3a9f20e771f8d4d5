"""[28] Corners."""

import itertools
import random
import unittest
from fractions import Fraction

from servedall import corners as c
from servedall.fractions import ZERO
from servedall.settling import least_shares
from servedall.shares import cost_of, is_shares, shares_of
from servedall.tables import Table, table_of
from support import (check_call, openings_by_hand, pair_of, random_prices, random_table, serves_all, some_tables,
                     value_of)

RING = table_of("abc", "xyz", [("a", "x"), ("a", "y"), ("b", "y"), ("b", "z"), ("c", "x"), ("c", "z")])
EMPTY = Table((), (), ())


def determinant(rows):
    """By the rule of Leibniz."""
    if not rows:
        return 1
    return sum((-1) ** at * one * determinant([row[:at] + row[at + 1:] for row in rows[1:]])
               for at, one in enumerate(rows[0]) if one)


def rank_by_hand(rows):
    """The size of the greatest square part with a determinant that is not 0."""
    rows = [[value_of(one) for one in row] for row in rows]
    wide = len(rows[0]) if rows else 0
    for size in range(min(len(rows), wide), 0, -1):
        for some in itertools.combinations(rows, size):
            for places in itertools.combinations(range(wide), size):
                if determinant([[row[at] for at in places] for row in some]):
                    return size
    return 0


def corners_by_hand(table):
    """All corners, by Cramer's rule over all lots of bounds."""
    many = len(table.houses)
    bounds = [[int(at == j) for j in range(many)] + [0] for at in range(many)]
    bounds += [[int((p, h) in table.pairs) for h in table.houses] + [1] for p in table.people]
    found = set()
    for some in itertools.combinations(bounds, many):
        below = determinant([row[:-1] for row in some])
        if below:
            point = [Fraction(determinant([row[:at] + [row[-1]] + row[at + 1:-1] for row in some]), below)
                     for at in range(many)]
            if min(point, default=0) >= 0 and all(
                    sum(one * two for one, two in zip(row, point)) >= 1 for row in bounds[many:]):
                found.add(tuple(map(pair_of, point)))
    return tuple(sorted(found))


class RankTest(unittest.TestCase):

    def test_edges(self):
        for rows, rank in (([], 0), ((), 0), ([()], 0), ([(), ()], 0), ([(ZERO, ZERO)], 0), ([((1, 2), ZERO)], 1),
                           ([((1, 2), (1, 3)), ((3, 1), (2, 1))], 1), ([((1, 2), (1, 3)), ((3, 1), (1, 1))], 2),
                           ([(ZERO, (1, 1)), ((1, 1), ZERO), ((1, 1), (1, 1))], 2), ([((-1, 3),), ((5, 7),)], 1)):
            self.assertEqual(c.rank_of(rows=rows), rank)
            self.assertEqual(c.rank_of(tuple(rows)), rank)

    def test_all_tried(self):
        dice = random.Random(1)
        for _ in range(80):
            wide = dice.randint(1, 4)
            rows = [tuple(pair_of(Fraction(dice.randint(-2, 2), dice.randint(1, 2))) for _ in range(wide))
                    for _ in range(dice.randint(0, 4))]
            if rows and dice.random() < 0.5:
                rows.append(rows[0])
            self.assertEqual(check_call(self, c.rank_of, rows=rows), rank_by_hand(rows))


class CornersTest(unittest.TestCase):

    def test_example(self):
        self.assertEqual((len(c.all_corners(RING)), c.all_corners(RING)[3]), (4, ((1, 2),) * 3))

    def test_all_tried(self):
        dice = random.Random(2)
        for table in some_tables(3, 40, most=4, servable=True):
            found = check_call(self, c.all_corners, table=table)
            self.assertEqual(found, corners_by_hand(table))
            for shares in found:
                self.assertIs(check_call(self, c.is_corner, table=table, shares=shares), True)
            for shares in itertools.product(((0, 1), (1, 3), (1, 2), (1, 1), (2, 1)), repeat=len(table.houses)):
                if len(table.houses) <= 3 and is_shares(table, shares):
                    self.assertIs(c.is_corner(table, shares), shares in found)
            prices = random_prices(dice, table)
            costs = [value_of(cost_of(prices, shares)) for shares in found]
            self.assertEqual(min(costs), value_of(cost_of(prices, least_shares(table, prices)[0])))

    def test_whole_corners_are_openings_of_which_no_house_can_be_closed(self):
        for table in some_tables(4, 40, most=4, servable=True):
            fewest = [houses for houses in openings_by_hand(table)
                      if not any(serves_all(table, [h for h in houses if h != one], table.people) for one in houses)]
            whole = [shares for shares in c.all_corners(table) if all(share[1] == 1 for share in shares)]
            self.assertEqual(sorted(shares_of(table, houses) for houses in fewest), whole)
            for houses in openings_by_hand(table):
                self.assertIs(c.is_corner(table, shares_of(table, houses)), houses in fewest)

    def test_five_and_six(self):
        dice = random.Random(5)
        table = random_table(dice, 6, 5, 0.5, servable=True)
        self.assertEqual(c.all_corners(table), corners_by_hand(table))

    def test_edges(self):
        self.assertEqual(c.all_corners(EMPTY), ((),))
        self.assertIs(c.is_corner(EMPTY, ()), True)
        self.assertEqual(c.all_corners(Table(("a",), (), ())), ())
        self.assertEqual(c.all_corners(Table(("a",), ("x",), ())), ())
        idle = Table((), ("x", "y"), ())
        self.assertEqual(c.all_corners(idle), (((0, 1), (0, 1)),))
        self.assertIs(c.is_corner(idle, ((0, 1), (1, 1))), False)
        alike = table_of("ab", "xy", itertools.product("ab", "xy"))
        self.assertEqual(c.all_corners(alike), (((0, 1), (1, 1)), ((1, 1), (0, 1))))
        self.assertIs(c.is_corner(alike, ((1, 2), (1, 2))), False)


if __name__ == "__main__":
    unittest.main()
