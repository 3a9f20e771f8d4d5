"""[23], [24] Shares."""

import random
import unittest

from servedall import shares as s
from servedall.errors import InvalidOpening
from servedall.fractions import minus, total_of
from servedall.prices import right_payments, sum_of
from servedall.tables import Table, table_of
from support import (ANY, check_call, openings_by_hand, pair_of, price_by_hand, raised, random_fractions, random_prices,
                     some_tables, value_of)

RING = table_of("abc", "xyz", [("a", "x"), ("a", "y"), ("b", "y"), ("b", "z"), ("c", "x"), ("c", "z")])
EMPTY = Table((), (), ())
HALF = ((1, 2),) * 3


class NeedTest(unittest.TestCase):

    def check(self, value, kept):
        self.assertEqual(raised(s.need_shares, RING, value), (InvalidOpening, kept))
        self.assertIs(s.is_shares(RING, value), False)

    def test_shares(self):
        for value in (HALF, ((0, 1),) * 3, ((7, 2), (10 ** 11, 10 ** 11 - 1), (0, 1))):
            self.assertEqual(raised(s.need_shares, table=RING, value=value), (None, None))
        self.assertEqual(raised(s.need_shares, EMPTY, ()), (None, None))

    def test_no_shares(self):
        for value in (None, list(HALF), "abc", 1, RING):
            self.check(value, -1)
        for wrong in (1, (2, 4), (-1, 2), None, [1, 2], "1", (True, 1)):
            self.check((wrong, wrong, wrong), 0)
            self.check(((0, 1), wrong), 1)
            self.check(((0, 1), (1, 1), wrong, wrong), 2)

    def test_too_many_or_too_few(self):
        self.check(HALF + HALF, 3)
        self.check(HALF + (None,), 3)
        self.check(HALF[:2], 2)
        self.check((), 0)
        self.check((None,), 0)
        self.assertEqual(raised(s.need_shares, EMPTY, ((1, 2),)), (InvalidOpening, 0))

    def test_any_value(self):
        for value in ANY:
            for table in (EMPTY, RING, Table((), ("x",), ())):
                error, _ = raised(s.need_shares, table, value)
                self.assertIs(s.is_shares(table, value), error is None)
            self.assertIs(s.is_shares(Table((), ("x",), ()), (value,)), value == (1, 2) and type(value) is tuple)

    def test_right_shares(self):
        self.assertIs(s.is_shares(table=RING, value=HALF), True)
        self.assertIs(s.is_shares(RING, ((1, 2), (1, 2), (1, 3))), False)
        self.assertIs(s.is_shares(RING, ((1, 1), (1, 1), (0, 1))), True)
        self.assertIs(s.is_shares(RING, ((9, 1), (0, 1), (0, 1))), False)
        self.assertIs(s.is_shares(EMPTY, ()), True)
        self.assertIs(s.is_shares(Table(("a",), (), ()), ()), False)


class PartsTest(unittest.TestCase):

    def test_example(self):
        self.assertEqual((s.is_shares(RING, HALF), s.share_gaps(RING, (1, 1, 2), HALF, HALF)),
                         (True, (((0, 1), (0, 1), (1, 2)), ((0, 1), (0, 1), (0, 1)))))

    def test_parts_sum_to_the_difference(self):
        dice = random.Random(2)
        for table in some_tables(3, 80):
            prices = random_prices(dice, table)
            shares = random_fractions(dice, len(table.houses))
            pays = random_fractions(dice, len(table.people))
            supplies = check_call(self, s.supplies, table=table, shares=shares)
            by_hand = [sum(value_of(share) for house, share in zip(table.houses, shares) if (p, house) in table.pairs)
                       for p in table.people]
            self.assertEqual(supplies, tuple(map(pair_of, by_hand)))
            self.assertIs(s.is_shares(table, shares), min(by_hand, default=1) >= 1)
            cost = check_call(self, s.cost_of, prices=prices, shares=shares)
            self.assertEqual(cost, pair_of(sum(price * value_of(share) for price, share in zip(prices, shares))))
            paid = check_call(self, s.paid_to, table=table, payments=pays)
            self.assertEqual(paid, tuple(pair_of(sum(value_of(pay) for p, pay in zip(table.people, pays)
                                                     if (p, h) in table.pairs)) for h in table.houses))
            named = {"table": table, "prices": prices, "shares": shares, "payments": pays}
            houses, people = check_call(self, s.share_gaps, **named)
            self.assertEqual(houses, tuple(pair_of(value_of(share) * (price - value_of(one)))
                                           for share, price, one in zip(shares, prices, paid)))
            self.assertEqual(people, tuple(pair_of(value_of(pay) * (one - 1)) for pay, one in zip(pays, by_hand)))
            self.assertEqual(total_of(houses + people), minus(cost, sum_of(pays)))
            self.assertIs(check_call(self, s.do_meet, **named), cost == sum_of(pays))
            if s.is_shares(table, shares) and right_payments(table, prices, pays):
                self.assertGreaterEqual(min(map(value_of, houses + people), default=0), 0)

    def test_of_openings(self):
        dice = random.Random(4)
        for table in some_tables(5, 30, most=4, servable=True):
            prices = random_prices(dice, table)
            for opening in openings_by_hand(table):
                shares = check_call(self, s.shares_of, table=table, opening=opening)
                self.assertEqual(shares, tuple((int(house in opening), 1) for house in table.houses))
                self.assertEqual(s.shares_of(table, list(opening)), shares)
                self.assertTrue(s.is_shares(table, shares))
                self.assertEqual(s.cost_of(prices, shares), (price_by_hand(table, prices, opening), 1))

    def test_meeting(self):
        self.assertIs(s.do_meet(RING, (1, 1, 1), HALF, HALF), True)
        self.assertIs(s.do_meet(RING, (1, 1, 2), HALF, HALF), False)
        self.assertIs(s.do_meet(EMPTY, (), (), ()), True)

    def test_empty(self):
        self.assertEqual((s.supplies(EMPTY, ()), s.cost_of((), ()), s.paid_to(EMPTY, ()), s.shares_of(EMPTY, ()),
                          s.share_gaps(EMPTY, (), (), ())), ((), (0, 1), (), (), ((), ())))
        self.assertEqual(s.supplies(Table(("a",), (), ()), ()), ((0, 1),))
        self.assertEqual(s.paid_to(Table((), ("x",), ()), ()), ((0, 1),))


if __name__ == "__main__":
    unittest.main()
