"""[35] Fines and plans."""

import itertools
import random
import unittest

from servedall import fines as f
from servedall.apart import ring_table
from servedall.errors import InvalidPrices, Refused
from servedall.fines import Plan
from servedall.prices import right_payments
from servedall.settling import least_shares
from servedall.tables import Table, serves, table_of
from servedall.ties import is_even
from support import (ANY, PEOPLE, check_call, even_tables, price_by_hand, raised, random_prices, random_table,
                     ringless_tables, rings_by_hand, some_tables, subsets, tables_of_size, value_of)

RING = table_of("abc", "xyz", [("a", "x"), ("a", "y"), ("b", "y"), ("b", "z"), ("c", "x"), ("c", "z")])
PATH = table_of("abc", "xyz", [("a", "x"), ("a", "y"), ("b", "y"), ("b", "z"), ("c", "z")])
EMPTY = Table((), (), ())
PLAN = Plan(("x",), ("b", "c"), ((2, 1), (1, 1), (1, 1)))


def left_out(table, houses):
    return tuple(name for name in table.people if not any((name, house) in table.pairs for house in houses))


def plan_by_hand(table, prices, fines, houses):
    fined = sum(fine for name, fine in zip(table.people, fines) if name in left_out(table, houses))
    return price_by_hand(table, prices, houses) + fined


def least_by_hand(table, prices, fines):
    return min(plan_by_hand(table, prices, fines, houses) for houses in subsets(table.houses))


def greatest_fair_sum(table, prices, fines):
    """The greatest sum of right payments nowhere above fines: each person has a house of this price alone."""
    own = tuple("q" + name for name in table.people)
    wide = table_of(table.people, table.houses + own, list(table.pairs) + list(zip(table.people, own)))
    costs = dict(zip(table.houses + own, prices + fines))
    return sum(map(value_of, least_shares(wide, tuple(costs[house] for house in wide.houses))[1]))


def random_fines(dice, table):
    most = dice.choice((0, 1, 2, 5, 10 ** 6 - 1))
    return tuple(dice.randint(0, most) for _ in table.people)


class ClassTest(unittest.TestCase):

    def test_equal(self):
        self.assertEqual(Plan(("x",), ("b",), ((1, 1),)), Plan(opening=("x",), unserved=("b",), payments=((1, 1),)))
        for other in (Plan(("y",), ("b",), ((1, 1),)), Plan(("x",), ("a",), ((1, 1),)), Plan(("x",), ("b",), ()),
                      (("x",), ("b",), ((1, 1),)), None, EMPTY):
            self.assertNotEqual(Plan(("x",), ("b",), ((1, 1),)), other)

    def test_any_values_are_kept(self):
        for value in ANY:
            plan = Plan(value, [value], (value,))
            self.assertEqual((plan.opening, plan.unserved, plan.payments), (value, [value], (value,)))
            self.assertIs(type(plan.opening), type(value))
        names = ["x"]
        plan = Plan(names, names, names)
        names.append("y")
        self.assertEqual((plan.opening, plan.unserved, plan.payments), (["x"], ["x"], ["x"]))


class PriceTest(unittest.TestCase):

    def test_examples(self):
        self.assertEqual((f.plan_price(RING, (1, 1, 3), (5, 1, 1), ("x",)), f.least_plan_price(RING, (1, 1, 1), (1, 1, 1)),
                          f.parting_fines(RING)), (2, 2, ((1, 1, 1), (1, 1, 1))))
        self.assertEqual(f.best_plan(PATH, (2, 4, 4), (9, 1, 1)), PLAN)

    def test_all_plans_of_small_tables(self):
        dice = random.Random(1)
        for table in itertools.chain(tables_of_size(2, 2), some_tables(2, 80, most=4), [EMPTY]):
            prices, fines = random_prices(dice, table), random_fines(dice, table)
            case = {"table": table, "prices": prices, "fines": fines}
            for houses in subsets(table.houses):
                self.assertEqual(check_call(self, f.plan_price, **case, houses=houses),
                                 plan_by_hand(table, prices, fines, houses))
            self.assertEqual(check_call(self, f.least_plan_price, **case), least_by_hand(table, prices, fines))

    def test_eight(self):
        dice = random.Random(3)
        for density in (0.2, 0.5, 0.9):
            table = random_table(dice, 8, 8, density)
            for most in (0, 1, 10 ** 6 - 1):
                prices = tuple(dice.randint(0, most) for _ in range(8))
                fines = tuple(dice.randint(0, most) for _ in range(8))
                self.assertEqual(f.least_plan_price(table, prices, fines), least_by_hand(table, prices, fines))


class BestTest(unittest.TestCase):

    def check_case(self, table, prices, fines):
        case = {"table": table, "prices": prices, "fines": fines}
        plan = check_call(self, f.best_plan, **case)
        self.assertIsInstance(plan, Plan)
        self.assertEqual(plan.opening, tuple(sorted(set(plan.opening) & set(table.houses))))
        self.assertEqual(plan.unserved, left_out(table, plan.opening))
        self.assertTrue(right_payments(table, prices, plan.payments))
        self.assertTrue(all(bottom == 1 and 0 <= top <= fine for (top, bottom), fine in zip(plan.payments, fines)))
        self.assertEqual(sum(top for top, _ in plan.payments), least_by_hand(table, prices, fines))
        self.assertEqual(plan_by_hand(table, prices, fines, plan.opening), least_by_hand(table, prices, fines))
        self.assertIs(check_call(self, f.check_plan, **case, value=plan), True)

    def test_even_tables(self):
        dice = random.Random(4)
        for table in itertools.chain(even_tables(5, 60), ringless_tables(6, 60), some_tables(7, 100)):
            for prices, fines in ((random_prices(dice, table), random_fines(dice, table)),
                                  ((1,) * len(table.houses), (1,) * len(table.people))):
                if is_even(table):
                    self.check_case(table, prices, fines)
                else:
                    self.assertEqual(raised(f.best_plan, table, prices, fines), (Refused, "odd"))

    def test_eight(self):
        dice = random.Random(8)
        for table in itertools.chain(even_tables(9, 15, most=8), ringless_tables(10, 15, most=8), [ring_table(8)]):
            self.check_case(table, tuple(dice.randint(0, 10 ** 6 - 1) for _ in table.houses),
                            tuple(dice.randint(0, 10 ** 6 - 1) for _ in table.people))
            self.check_case(table, (0,) * len(table.houses), (0,) * len(table.people))

    def test_edges(self):
        # Nobody; people without a house; houses that serve nobody; no pairs at all.
        self.assertEqual(f.best_plan(EMPTY, (), ()), Plan((), (), ()))
        self.check_case(Table(("a", "b"), (), ()), (), (3, 0))
        self.assertEqual(f.best_plan(Table(("a", "b"), (), ()), (), (3, 0)), Plan((), ("a", "b"), ((3, 1), (0, 1))))
        self.check_case(Table((), ("x", "y"), ()), (0, 3), ())
        self.check_case(Table(("a", "b"), ("x", "y"), ()), (0, 3), (2, 0))
        self.check_case(table_of("ab", "xyz", [("a", "y")]), (1, 2, 0), (3, 4))
        # Names of houses that copies of houses have, too.
        self.check_case(table_of("ab", ["aa", "ab", "ad"], [("a", "aa"), ("b", "aa"), ("b", "ad")]), (3, 1, 1), (2, 2))

    def test_no_payments_are_more(self):
        dice = random.Random(11)
        for table in some_tables(12, 80):
            prices, fines = random_prices(dice, table), random_fines(dice, table)
            greatest, least = greatest_fair_sum(table, prices, fines), f.least_plan_price(table, prices, fines)
            self.assertLessEqual(greatest, least)
            if is_even(table):
                self.assertEqual(greatest, least)


class CheckTest(unittest.TestCase):

    def test_all_of_small_tables(self):
        dice = random.Random(13)
        for table in some_tables(14, 40, most=3):
            prices, fines = random_prices(dice, table), random_fines(dice, table)
            some = [tuple(dice.choice(((0, 1), (1, 1), (1, 2), (2, 1), (-1, 1))) for _ in table.people) for _ in range(5)]
            if is_even(table):
                some.append(f.best_plan(table, prices, fines).payments)
            for payments, houses, people in itertools.product(some, subsets(table.houses), subsets(table.people)):
                wanted = (people == left_out(table, houses) and right_payments(table, prices, payments)
                          and all(value_of(pays) <= fine for pays, fine in zip(payments, fines))
                          and sum(map(value_of, payments)) == plan_by_hand(table, prices, fines, houses))
                self.assertIs(f.check_plan(table=table, prices=prices, fines=fines, value=Plan(houses, people, payments)),
                              wanted)

    def test_wrong_plans(self):
        case = (PATH, (2, 4, 4), (9, 1, 1))
        self.assertIs(f.check_plan(*case, PLAN), True)
        pays = PLAN.payments
        for value in (Plan(["x"], ("b", "c"), pays), Plan(("x",), ["b", "c"], pays), Plan(("x",), ("c", "b"), pays),
                      Plan(("x",), ("b", "c"), list(pays)), Plan(("x", "x"), ("b", "c"), pays), Plan(("x",), ("b",), pays),
                      Plan(("q",), ("b", "c"), pays), Plan(("x",), ("a", "b", "c"), pays), Plan((), ("b", "c"), pays),
                      Plan(("x",), ("b", "c"), ((2, 1), (1, 1), (0, 1))), Plan(("x",), ("b", "c"), ((2, 1), (1, 1))),
                      Plan(("x",), ("b", "c"), ((2, 1), (2, 1), (0, 1))), Plan(("x",), ("b", "c"), ((3, 1), (1, 1), (0, 1))),
                      Plan(("x",), ("b", "c"), ((2, 1), (True, 1), (1, 1))), (("x",), ("b", "c"), pays), None):
            self.assertIs(f.check_plan(*case, value), False)
        # Above a fine, though the sum is right.
        self.assertIs(f.check_plan(PATH, (4, 4, 4), (3, 1, 1), Plan((), ("a", "b", "c"), ((3, 1), (1, 1), (1, 1)))), True)
        self.assertIs(f.check_plan(PATH, (4, 4, 4), (3, 1, 1), Plan((), ("a", "b", "c"), ((2, 1), (2, 1), (1, 1)))), False)

    def test_any_value(self):
        for value in ANY:
            for one in (value, Plan(value, ("b", "c"), PLAN.payments), Plan(("x",), value, PLAN.payments),
                        Plan(("x",), ("b", "c"), value), Plan(("x", value), ("b", "c"), PLAN.payments),
                        Plan(("x",), ("b", value), PLAN.payments), Plan(("x",), ("b", "c"), PLAN.payments[:2] + (value,))):
                self.assertIs(f.check_plan(PATH, (2, 4, 4), (9, 1, 1), one), False)


class ErrorTest(unittest.TestCase):

    def check(self, table, prices, fines, wanted):
        for call, more in ((f.plan_price, ((),)), (f.check_plan, (None,)), (f.best_plan, ()), (f.least_plan_price, ())):
            self.assertEqual(raised(call, table, prices, fines, *more), wanted)

    def test_prices_then_fines_then_odd(self):
        for wrong in (None, (1, 1), [1, 1, 1], (1, 1, 1, 1), "abc", 3):
            self.check(RING, wrong, None, (InvalidPrices, -1))
            self.check(RING, (1, 1, 1), wrong, (InvalidPrices, -1))
        for wrong in (-1, True, None, "1", (1, 1), [1]):
            self.check(RING, (1, wrong, wrong), (wrong, 1, 1), (InvalidPrices, 1))
            self.check(RING, (1, 1, 1), (1, 1, wrong), (InvalidPrices, 2))
            self.check(RING, (1, 1, 1), (wrong, wrong, 1), (InvalidPrices, 0))
        self.assertEqual(raised(f.best_plan, RING, (1, 1, 1), (1, 1, 1)), (Refused, "odd"))
        self.assertEqual(raised(f.best_plan, ring_table(7), (0,) * 7, (0,) * 7), (Refused, "odd"))
        # As many fines as there are people, prices as houses.
        wide = Table(("a", "b"), ("x",), (("a", "x"),))
        self.check(wide, (1, 1), (1,), (InvalidPrices, -1))
        self.check(wide, (1,), (1,), (InvalidPrices, -1))
        self.assertEqual(f.least_plan_price(wide, (1,), (3, 4)), 5)

    def test_any_value(self):
        for value in ANY:
            at = 0 if isinstance(value, tuple) and len(value) == 3 else -1
            self.check(RING, value, (1, 1, 1), (InvalidPrices, at))
            self.check(RING, (1, 1, 1), value, (InvalidPrices, at))
            if type(value) is not int or value < 0:
                self.check(RING, (1, 1, value), (value, 1, 1), (InvalidPrices, 2))
                self.check(RING, (1, 1, 1), (1, value, 1), (InvalidPrices, 1))


class PartingTest(unittest.TestCase):

    def check_ring(self, table, ring, prices, fines):
        people, houses = ring
        many = len(people)
        self.assertEqual(prices, tuple(1 if house in houses else many for house in table.houses))
        self.assertEqual(fines, tuple(1 if name in people else 0 for name in table.people))
        self.assertEqual(least_by_hand(table, prices, fines), (many + 1) // 2)
        self.assertEqual(greatest_fair_sum(table, prices, fines) * 2, many)
        self.assertIs(check_call(self, f.check_parting, table=table, ring=ring, prices=prices, fines=fines), True)
        pays = check_call(self, f.ring_payments, table=table, ring=ring)
        self.assertEqual(pays, tuple((1, 2) if name in people else (0, 1) for name in table.people))
        self.assertTrue(right_payments(table, prices, pays))

    def test_parting(self):
        rings = set()
        for table in itertools.chain(tables_of_size(3, 3), some_tables(15, 80), [ring_table(5), ring_table(7)]):
            found = check_call(self, f.parting_fines, table=table)
            if is_even(table):
                self.assertIsNone(found)
                continue
            prices, fines = found
            fitting = [ring for ring in rings_by_hand(table) if len(ring[0]) % 2 == 1
                       and set(ring[0]) == {name for name, fine in zip(table.people, fines) if fine == 1}
                       and set(ring[1]) == {house for house, price in zip(table.houses, prices) if price == 1}]
            self.assertNotEqual(fitting, [])
            self.check_ring(table, fitting[0], prices, fines)
            rings.add(len(fitting[0][0]))
        self.assertEqual(rings, {3, 5, 7})

    def test_even_tables_have_none(self):
        for table in itertools.chain(even_tables(16, 20), ringless_tables(17, 20), [EMPTY, ring_table(8)]):
            self.assertIsNone(f.parting_fines(table))

    def test_all_rings(self):
        found = [(table, ring) for table in some_tables(18, 400) for ring in rings_by_hand(table)]
        self.assertGreater(len([table for table, ring in found if len(table.people) > len(ring[0])]), 30)
        for table, ring in found:
            if ring[0][0] == min(ring[0]):
                prices = tuple(1 if house in ring[1] else len(ring[0]) for house in table.houses)
                fines = tuple(1 if name in ring[0] else 0 for name in table.people)
                self.assertIs(f.check_parting(table=table, ring=ring, prices=prices, fines=fines), len(ring[0]) % 2 == 1)
                self.assertEqual(f.ring_payments(table, ring), tuple((fine, fine + 1) for fine in fines))

    def test_even_ring(self):
        table = ring_table(4)
        ring = rings_by_hand(table)[0]
        self.assertIs(f.check_parting(table, ring, (1,) * 4, (1,) * 4), False)
        self.assertEqual(f.ring_payments(table, ring), ((1, 2),) * 4)

    def test_wrong_parting(self):
        table = table_of(PEOPLE[:4], "wxyz", list(RING.pairs) + [("d", "w"), ("d", "x")])
        ring = (("a", "b", "c"), ("y", "z", "x"))
        good = (ring, (3, 1, 1, 1), (1, 1, 1, 0))
        self.assertIs(f.check_parting(table, *good), True)
        for at, wrongs in enumerate(((("ring", ring), ring[::-1], (["a", "b", "c"], ring[1]), (ring[0], ("x", "y", "z")), None),
                                     ((1, 1, 1, 1), (3, 1, 1), [3, 1, 1, 1], (3, True, 1, 1), (3, 1, 1, 2), (4, 1, 1, 1)),
                                     ((1, 1, 1, 1), (1, 1, 1), [1, 1, 1, 0], (1, 1, 1, False), (True, 1, 1, 0), (1, 1, 0, 1)))):
            for wrong in wrongs + tuple(ANY):
                self.assertIs(f.check_parting(table, *good[:at], wrong, *good[at + 1:]), False)
        for value in ANY:
            self.assertIs(f.check_parting(table, ring, (3, 1, 1, value), (1, 1, 1, 0)), type(value) is int and value == 1)
            self.assertIs(f.check_parting(table, ring, (3, 1, 1, 1), (1, 1, 1, value)), type(value) is int and value == 0)


if __name__ == "__main__":
    unittest.main()
