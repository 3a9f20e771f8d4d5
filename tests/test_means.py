"""[29] Means of corners."""

import itertools
import random
import unittest
from fractions import Fraction

from servedall.apart import dot_table, ring_table
from servedall.corners import all_corners, is_corner
from servedall.means import check_mean, mean_paper
from servedall.settling import least_shares
from servedall.shares import is_shares, shares_of
from servedall.tables import Table, table_of
from support import ANY, check_call, pair_of, random_table, right_shares, some_tables, value_of

RING = table_of("abc", "xyz", [("a", "x"), ("a", "y"), ("b", "y"), ("b", "z"), ("c", "x"), ("c", "z")])
ONES, HALF = ((1, 1),) * 3, ((1, 2),) * 3
XY, XZ = ((1, 1), (1, 1), (0, 1)), ((1, 1), (0, 1), (1, 1))
EMPTY = Table((), (), ())


def is_mean_by_hand(table, shares, value, all_of_them):
    """Whether something is weights above 0, 1 in sum, with corners whose mean is nowhere above the shares."""
    if not isinstance(value, tuple):
        return False
    for pair in value:
        if not isinstance(pair, tuple) or len(pair) != 2 or pair[1] not in all_of_them:
            return False
        if any(not isinstance(one, tuple) or [type(part) for part in one] != [int, int] for one in pair[1]):
            return False
        weight = pair[0]
        if not isinstance(weight, tuple) or [type(part) for part in weight] != [int, int]:
            return False
        if min(weight) <= 0 or pair_of(Fraction(*weight)) != weight:
            return False
    if sum(value_of(weight) for weight, _ in value) != 1:
        return False
    return all(sum(value_of(weight) * value_of(corner[at]) for weight, corner in value) <= value_of(share)
               for at, share in enumerate(shares))


def some_shares(dice, table, most=3):
    """Some right shares, in parts of ones with small bottoms."""
    return right_shares(dice, table, [Fraction(dice.choice((0, 0, 1, 1, 2, 3)), dice.randint(1, most))
                                      for _ in table.houses])


class MeanTest(unittest.TestCase):

    def check_shares(self, table, shares, all_of_them=None):
        self.assertTrue(is_shares(table, shares))
        paper = check_call(self, mean_paper, table=table, shares=shares)
        if all_of_them is None:
            all_of_them = [corner for _, corner in paper if is_shares(table, corner) and is_corner(table, corner)]
        self.assertTrue(is_mean_by_hand(table, shares, paper, all_of_them), (table.pairs, shares, paper))
        self.assertIs(check_call(self, check_mean, table=table, shares=shares, value=paper), True)
        return paper

    def test_example(self):
        self.assertIs(check_mean(RING, ONES, (((1, 1), HALF),)), True)

    def test_all_kinds(self):
        dice = random.Random(1)
        for table in some_tables(2, 60, servable=True):
            all_of_them = all_corners(table)
            for _ in range(4):
                self.check_shares(table, some_shares(dice, table), all_of_them)
            for corner in all_of_them[:6]:
                self.assertEqual(self.check_shares(table, corner, all_of_them), (((1, 1), corner),))

    def test_between_corners(self):
        dice = random.Random(3)
        for table in some_tables(4, 40, most=4, servable=True):
            all_of_them = all_corners(table)
            for _ in range(4):
                some = [dice.choice(all_of_them) for _ in range(dice.randint(1, 3))]
                mean = [sum(value_of(corner[at]) for corner in some) / len(some) for at in range(len(table.houses))]
                self.check_shares(table, tuple(map(pair_of, mean)), all_of_them)

    def test_eight(self):
        dice = random.Random(5)
        for density in (0.2, 0.4, 0.6):
            table = random_table(dice, 8, 8, density, servable=True)
            self.check_shares(table, some_shares(dice, table, 10 ** 11))
            self.check_shares(table, least_shares(table, tuple(dice.randint(1, 9) for _ in range(8)))[0])
            self.check_shares(table, ((10 ** 11, 1),) * 8)
        self.check_shares(ring_table(7), ((1, 2),) * 7)
        self.check_shares(dot_table(3), ((1, 4),) * 7)

    def test_edges(self):
        self.assertEqual(mean_paper(EMPTY, ()), (((1, 1), ()),))
        idle = Table((), ("x", "y"), ())
        self.assertEqual(mean_paper(idle, ((3, 1), (0, 1))), (((1, 1), ((0, 1), (0, 1))),))
        alike = table_of("ab", "xy", itertools.product("ab", "xy"))
        self.check_shares(alike, ((1, 3), (2, 3)), (((0, 1), (1, 1)), ((1, 1), (0, 1))))


class CheckTest(unittest.TestCase):

    def test_right_ones(self):
        for shares, value in ((HALF, (((1, 1), HALF),)), (XY, (((1, 1), XY),)),
                              (((1, 1), (1, 2), (1, 2)), (((1, 2), XY), ((1, 2), XZ))),
                              (ONES, (((1, 2), XY), ((1, 2), XY))), (ONES, (((1, 3), XY), ((1, 3), XZ), ((1, 3), HALF)))):
            self.assertIs(check_mean(RING, shares, value), True, value)

    def test_wrong_ones(self):
        for value in ((), (((1, 1), ONES),), (((1, 2), HALF),), (((1, 2), HALF), ((1, 1), HALF)), [((1, 1), HALF)],
                      ([(1, 1), HALF],), (((1, 1), list(HALF)),), (((1, 1), HALF), ((0, 1), XY)), (((2, 2), HALF),),
                      (((2, 1), HALF), ((-1, 1), HALF)), ((1, HALF),), (((1, 1), HALF, HALF),), (((1, 1), HALF[:2]),),
                      (((1, 1), (HALF[0], HALF[1], [1, 2])),), ((True, HALF),), (((True, 1), HALF),), ((1, 1), HALF),
                      (((1, 1), XY),), (((1, 1), ((1, 2), (1, 2), (0, 1))),), (((1, 1), shares_of(RING, "xyz")),)):
            self.assertIs(check_mean(RING, HALF, value), False, value)

    def test_any_value(self):
        for value in ANY:
            self.assertIs(check_mean(RING, ONES, value), False)
            self.assertIs(check_mean(EMPTY, (), value), False)
            self.assertIs(check_mean(RING, ONES, (((1, 1), value),)), False)
            self.assertIs(check_mean(RING, ONES, ((value, HALF),)), False)
            self.assertIs(check_mean(RING, ONES, (((1, 1), HALF), value)), False)
            told = check_mean(EMPTY, (), (((1, 1), value),))
            self.assertIs(told, value == () and isinstance(value, tuple))

    def test_changed(self):
        dice = random.Random(6)
        told = []
        for table in some_tables(7, 60, most=4, servable=True):
            all_of_them = all_corners(table)
            for _ in range(8):
                shares = some_shares(dice, table)
                paper = list(mean_paper(table, shares))
                at = dice.randrange(len(paper))
                paper[at] = dice.choice(((dice.choice(((1, 2), (1, 1), (0, 1), paper[at][0])), paper[at][1]),
                                         (paper[at][0], dice.choice(all_of_them + (shares,))), paper[0]))
                told.append(check_mean(table, shares, tuple(paper)))
                self.assertIs(told[-1], is_mean_by_hand(table, shares, tuple(paper), all_of_them))
        self.assertEqual(set(told), {True, False})


if __name__ == "__main__":
    unittest.main()
