"""[12], [13], [14] Openings."""

import itertools
import random
import unittest

from servedall import openings as o
from servedall.errors import InvalidOpening
from servedall.fractions import minus, total_of
from servedall.prices import right_payments, sum_of
from servedall.tables import Table, table_of
from support import (ANY, check_call, least_by_hand, openings_by_hand, pair_of, price_by_hand, raised, random_fractions,
                     random_prices, serves_all, some_tables, subsets, value_of)

RING = table_of("pqr", "xyz", [("p", "x"), ("p", "z"), ("q", "x"), ("q", "y"), ("r", "y"), ("r", "z")])
EMPTY = Table((), (), ())
ALONE = Table(("a", "b"), ("x",), (("a", "x"),))
PAYS = ((1, 1), (3, 2), (1, 2))


class OpeningTest(unittest.TestCase):

    def check(self, table, value, kept):
        self.assertEqual(raised(o.need_opening, table, value), (InvalidOpening, kept))
        self.assertIs(o.is_opening(table, value), False)

    def test_openings(self):
        for table, value in ((RING, ("x", "y")), (RING, ("x", "y", "z")), (EMPTY, ())):
            self.assertEqual(raised(o.need_opening, table=table, value=value), (None, None))
            self.assertIs(o.is_opening(table=table, value=value), True)
        idle = Table((), ("x",), ())
        self.assertTrue(o.is_opening(idle, ()) and o.is_opening(idle, ("x",)))

    def test_no_opening(self):
        for value in (None, 1, ["x", "y"], "xy", RING):
            self.check(RING, value, -1)
        for wrong in ("w", "p", 1, None, ("x",), ["x"], True):
            self.check(RING, (wrong, wrong), 0)
            self.check(RING, ("x", wrong, wrong), 1)
        self.check(RING, ("x", "x", "y"), 1)
        self.check(RING, ("y", "x"), 1)
        self.check(RING, ("x", "z", "y"), 2)

    def test_not_all_served(self):
        self.check(RING, (), 0)
        self.check(RING, ("x",), 1)
        self.check(ALONE, ("x",), 1)
        self.check(ALONE, (), 0)

    def test_any_value(self):
        for value in ANY:
            for table in (EMPTY, RING, ALONE):
                error, _ = raised(o.need_opening, table, value)
                self.assertIs(o.is_opening(table, value), error is None)
                self.assertIs(o.is_opening(table, (value,)), False)
                self.assertIs(o.check_meet(table, (1,) * len(table.houses), value, value), table is EMPTY
                              and type(value) is tuple and value == ())

    def test_all_small_ones(self):
        for table in some_tables(1, 30, most=4):
            for houses in subsets(table.houses):
                missing = tuple(p for p in table.people if not any((p, h) in table.pairs for h in houses))
                self.assertEqual(check_call(self, o.not_served, table=table, houses=houses), missing)
                self.assertEqual(o.not_served(table, list(houses[::-1] + houses)), missing)
                self.assertEqual(raised(o.need_opening, table, houses),
                                 (InvalidOpening, len(houses)) if missing else (None, None))


class GapTest(unittest.TestCase):

    def test_example(self):
        self.assertEqual((o.gap(RING, (3, 2, 4), ("x", "y"), PAYS), o.gap_parts(RING, (3, 2, 4), ("x", "y"), PAYS)),
                         ((2, 1), (((1, 2), (0, 1)), ((0, 1), (3, 2), (0, 1)))))
        self.assertEqual((o.least_price(RING, (3, 2, 4)), o.least_openings(RING, (3, 2, 4)),
                          o.check_meet(RING, (3, 2, 4), ("x", "y"), PAYS)), (5, (("x", "y"),), False))

    def test_price_of(self):
        self.assertEqual(check_call(self, o.price_of, table=RING, prices=(3, 2, 4), houses=["z", "x", "z"]), 7)
        self.assertEqual(o.price_of(RING, (3, 2, 4), ()), 0)

    def test_parts_sum_to_the_gap(self):
        dice = random.Random(1)
        for table in some_tables(2, 40, most=4, servable=True):
            prices = random_prices(dice, table)
            pays = random_fractions(dice, len(table.people))
            for opening in openings_by_hand(table):
                named = {"table": table, "prices": prices, "opening": opening, "payments": pays}
                told = check_call(self, o.gap, **named)
                self.assertEqual(told, minus((price_by_hand(table, prices, opening), 1), sum_of(pays)))
                houses, people = check_call(self, o.gap_parts, **named)
                self.assertEqual((len(houses), len(people)), (len(opening), len(table.people)))
                self.assertEqual(total_of(houses + people), told)
                for one, pay, person in zip(people, pays, table.people):
                    many = sum((person, house) in table.pairs for house in opening)
                    self.assertEqual(one, pair_of(value_of(pay) * (many - 1)))
                self.assertIs(check_call(self, o.check_meet, **named),
                              right_payments(table, prices, pays) and told == (0, 1))

    def test_check_meet(self):
        lane = table_of("ab", "xy", [("a", "x"), ("a", "y"), ("b", "y")])
        self.assertIs(o.check_meet(lane, (2, 3), ("y",), ((1, 1), (2, 1))), True)
        for opening, pays in ((("y",), ((2, 1), (2, 1))), (("y",), ((1, 1), (1, 1))), (("x", "y"), ((1, 1), (2, 1))),
                              (["y"], ((1, 1), (2, 1))), (("y",), [(1, 1), (2, 1)]), (("x",), ((1, 1), (1, 1))),
                              (("y",), ((5, 1), (-2, 1))), (("y",), ((0, 1), (6, 2)))):
            self.assertIs(o.check_meet(lane, (2, 3), opening, pays), False)
        self.assertIs(o.check_meet(EMPTY, (), (), ()), True)
        # The sum is right, but one house is overpaid.
        self.assertIs(o.check_meet(lane, (2, 3), ("y",), ((3, 1), (0, 1))), False)


class LeastTest(unittest.TestCase):

    def check_table(self, table, prices):
        found = openings_by_hand(table)
        least = min([price_by_hand(table, prices, one) for one in found], default=None)
        best = sorted(one for one in found if price_by_hand(table, prices, one) == least)
        self.assertEqual(check_call(self, o.least_price, table=table, prices=prices), least)
        self.assertEqual(check_call(self, o.least_openings, table=table, prices=prices), tuple(best))
        self.assertEqual(check_call(self, o.first_opening, table=table, prices=prices),
                         min(best, key=lambda one: (len(one), one), default=None))

    def test_all_tried(self):
        dice = random.Random(6)
        for table in some_tables(3, 120):
            self.check_table(table, random_prices(dice, table))
            self.check_table(table, (1,) * len(table.houses))
            self.check_table(table, (0,) * len(table.houses))

    def test_for_some_people(self):
        dice = random.Random(7)
        for table in some_tables(4, 40, most=4):
            prices = random_prices(dice, table)
            for people in subsets(table.people):
                least = least_by_hand(table, prices, people)
                self.assertEqual(check_call(self, o.least_for, table=table, prices=prices, people=people), least)
                self.assertEqual(o.least_for(table, prices, list(people[::-1] + people)), least)

    def test_lots_of_people_together(self):
        dice = random.Random(8)
        for table in some_tables(5, 15, most=4, servable=True):
            prices = random_prices(dice, table)
            for one, other in itertools.product(list(subsets(table.people)), repeat=2):
                both = o.least_for(table, prices, one + other)
                self.assertLessEqual(o.least_for(table, prices, one), both)
                self.assertLessEqual(both, o.least_for(table, prices, one) + o.least_for(table, prices, other))

    def test_edges(self):
        self.assertEqual((o.least_price(EMPTY, ()), o.least_openings(EMPTY, ()), o.first_opening(EMPTY, ())),
                         (0, ((),), ()))
        self.assertEqual((o.least_price(ALONE, (1,)), o.least_openings(ALONE, (1,)), o.first_opening(ALONE, (1,))),
                         (None, (), None))
        self.assertEqual((o.least_for(ALONE, (1,), ("a",)), o.least_for(ALONE, (1,), ("b",)),
                          o.least_for(ALONE, (1,), ())), (1, None, 0))
        free = Table((), ("x", "y"), ())
        self.assertEqual(o.least_openings(free, (0, 0)), ((), ("x",), ("x", "y"), ("y",)))
        self.assertEqual(o.first_opening(free, (0, 0)), ())
        self.assertEqual(o.least_openings(free, (0, 1)), ((), ("x",)))

    def test_the_fewest_houses_come_first(self):
        table = table_of("ab", "xyz", [("a", "x"), ("b", "y"), ("a", "z"), ("b", "z")])
        self.assertEqual(o.least_openings(table, (1, 1, 2)), (("x", "y"), ("z",)))
        self.assertEqual(o.first_opening(table, (1, 1, 2)), ("z",))

    def test_great_ones(self):
        names = "abcdefghijklmnop"
        round_table = table_of(names, names, [(a, a) for a in names] + list(zip(names, names[1:] + names[:1])))
        self.assertEqual(o.least_price(round_table, (10 ** 12,) * 16), 8 * 10 ** 12)
        self.assertEqual(o.least_openings(round_table, (1,) * 16), (tuple(names[::2]), tuple(names[1::2])))
        alone = table_of(names, names, zip(names, names))
        self.assertEqual(o.least_openings(alone, tuple(range(16))), (tuple(names),))
        dice = random.Random(9)
        full = table_of(names, names, [pair for pair in itertools.product(names, names) if dice.random() < 0.3])
        for opening in o.least_openings(full, (1,) * 16):
            self.assertTrue(serves_all(full, opening, full.people))
            self.assertEqual(len(opening), o.least_price(full, (1,) * 16))


if __name__ == "__main__":
    unittest.main()
