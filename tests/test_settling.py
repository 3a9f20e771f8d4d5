"""[26], [27] Settling."""

import itertools
import random
import unittest

from servedall import settling as s
from servedall.errors import Refused
from servedall.fractions import negative, sign_of
from servedall.lines import Lines, first_lines, turned_on
from servedall.prices import right_payments, sum_of
from servedall.shares import cost_of, do_meet, is_shares
from servedall.tables import Table, table_of
from support import check_call, raised, random_prices, random_table, some_tables, value_of

RING = table_of("abc", "xyz", [("a", "x"), ("a", "y"), ("b", "y"), ("b", "z"), ("c", "x"), ("c", "z")])
EMPTY = Table((), (), ())


def leaving_by_hand(lines, name):
    """The row whose right side and then coefficients of the last names, divided, are the least."""
    many = len(lines.rows)
    rows = []
    for at, row in enumerate(lines.rows):
        row = [value_of(one) for one in row]
        if row[name] > 0:
            rows.append(([one / row[name] for one in [row[-1]] + row[-1 - many:-1]], at))
    return min(rows)[1] if rows else None


class StepTest(unittest.TestCase):

    def test_entering(self):
        one, none = (1, 1), (0, 1)
        for gains, name in (((one, one), 0), ((none, one), 1), (((-1, 1), (1, 9)), 1), ((none, (-1, 2)), None), ((), None)):
            # The last fraction is no gain.
            lines = Lines((), (), gains + ((5, 1),))
            self.assertEqual(check_call(self, s.entering, lines=lines), name)

    def test_leaving(self):
        dice = random.Random(1)
        for table in some_tables(2, 60):
            lines = first_lines(table, random_prices(dice, table))
            for _ in range(4):
                for name in range(len(lines.last) - 1):
                    self.assertEqual(check_call(self, s.leaving, lines=lines, name=name), leaving_by_hand(lines, name))
                name = s.entering(lines)
                if name is None or s.leaving(lines, name) is None:
                    break
                lines = turned_on(lines, s.leaving(lines, name), name)

    def test_nothing_leaves(self):
        lines = first_lines(Table(("a", "b"), ("x",), (("b", "x"),)), (1,))
        self.assertEqual((s.leaving(lines, 0), s.leaving(lines, 1), s.leaving(lines, 2)), (None, 0, 0))
        turned = Lines((1,), (((-1, 1), (1, 1), (1, 1), (1, 1)),), ((1, 1), (0, 1), (0, 1), (0, 1)))
        self.assertIsNone(s.leaving(turned, 0))

    def test_alike_right_sides(self):
        lines = first_lines(RING, (1, 1, 1))
        self.assertEqual(s.leaving(lines, 0), leaving_by_hand(lines, 0))
        one, none = (1, 1), (0, 1)
        alike = Lines((0, 1), ((one, one, one, one), (one, one, none, one)), (one, none, none, none))
        self.assertEqual(s.leaving(alike, 0), 1)
        # What is left of the first house counts first: the row without it is the lesser one.
        self.assertEqual(s.leaving(lines, 0), 1)


class SettleTest(unittest.TestCase):

    def check_table(self, table, prices):
        rows = s.settle_rows(table, prices)
        self.assertEqual(rows[0], first_lines(table, prices))
        for lines, behind in zip(rows, rows[1:]):
            name = s.entering(lines)
            self.assertEqual(behind, turned_on(lines, leaving_by_hand(lines, name), name))
        self.assertIsNone(s.entering(rows[-1]))
        steps = check_call(self, s.settle_steps, table=table, prices=prices)
        self.assertEqual(steps, tuple(tuple(sorted(lines.basis)) for lines in rows))
        self.assertEqual(len(set(steps)), len(steps))
        shares, payments = check_call(self, s.least_shares, table=table, prices=prices)
        many = len(table.people)
        self.assertEqual(shares, tuple(negative(gain) for gain in rows[-1].last[many:-1]))
        self.assertEqual(len(payments), many)
        self.assertTrue(is_shares(table, shares))
        self.assertTrue(right_payments(table, prices, payments))
        self.assertTrue(do_meet(table, prices, shares, payments))
        self.assertEqual(sum_of(payments), rows[-1].last[-1])
        return rows

    def test_example(self):
        half = ((1, 2),) * 3
        self.assertEqual((s.least_shares(RING, (1, 1, 1)), s.settle_steps(RING, (1, 1, 1))[-1]),
                         ((half, half), (0, 1, 2)))

    def test_always_right_and_meeting(self):
        dice = random.Random(3)
        for table in some_tables(4, 80, most=6, servable=True):
            for prices in (random_prices(dice, table), (1,) * len(table.houses), (0,) * len(table.houses)):
                self.check_table(table, prices)

    def test_bases_rise(self):
        dice = random.Random(5)
        for table in some_tables(6, 40, servable=True):
            rows = self.check_table(table, random_prices(dice, table))
            many = len(table.people)
            worths = [[value_of(lines.last[-1])] + [-value_of(gain) for gain in lines.last[many:-1]] for lines in rows]
            for one, other in zip(worths, worths[1:]):
                self.assertLess(one, other)
            for lines in rows:
                for row in lines.rows:
                    signs = [sign_of(one) for one in (row[-1],) + row[-1 - len(lines.rows):-1] if sign_of(one)]
                    self.assertEqual(signs[0], 1)

    def test_eight(self):
        dice = random.Random(7)
        for _ in range(10):
            table = random_table(dice, 8, 8, 0.4, servable=True)
            self.check_table(table, random_prices(dice, table))
            self.check_table(table, (10 ** 6,) * 8)

    def test_never_more_than_openings(self):
        dice = random.Random(8)
        for table in some_tables(9, 20, most=4, servable=True):
            prices = random_prices(dice, table)
            shares, _ = s.least_shares(table, prices)
            cost = value_of(cost_of(prices, shares))
            for other in itertools.product(((0, 1), (1, 2), (1, 1)), repeat=len(table.houses)):
                if is_shares(table, other):
                    self.assertLessEqual(cost, value_of(cost_of(prices, other)))

    def test_unserved(self):
        table = Table(("a", "b"), ("x",), (("b", "x"),))
        for call in (s.settle_rows, s.settle_steps, s.least_shares):
            self.assertEqual(raised(call, table=table, prices=(1,)), (Refused, "unserved"))
            self.assertEqual(raised(call, Table(("a",), (), ()), ()), (Refused, "unserved"))

    def test_empty(self):
        for table, prices in ((EMPTY, ()), (Table((), ("x", "y"), ()), (0, 3))):
            self.assertEqual(s.settle_rows(table, prices), (first_lines(table, prices),))
            self.assertEqual(s.settle_steps(table, prices), (tuple(range(len(prices))),))
            self.assertEqual(s.least_shares(table, prices), (((0, 1),) * len(prices), ()))


if __name__ == "__main__":
    unittest.main()
