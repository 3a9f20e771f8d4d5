"""[32], [33] Openings and payments that meet."""

import itertools
import random
import unittest

from servedall import middle as m
from servedall.apart import ring_table
from servedall.errors import InvalidPrices, Refused
from servedall.middle import Meets
from servedall.openings import check_meet, least_openings, least_price, price_of
from servedall.prices import right_payments, sum_of
from servedall.settling import least_shares
from servedall.tables import Table, left, serves, table_of
from servedall.ties import is_even
from support import (ANY, check_call, even_tables, openings_by_hand, raised, random_prices, random_table,
                     ringless_tables, some_tables, subsets, tables_of_size, value_of)

RING = table_of("abc", "xyz", [("a", "x"), ("a", "y"), ("b", "y"), ("b", "z"), ("c", "x"), ("c", "z")])
PATH = table_of("abc", "xyz", [("a", "x"), ("a", "y"), ("b", "y"), ("b", "z"), ("c", "z")])
LONE = Table(("a", "b"), ("x",), (("b", "x"),))
EMPTY = Table((), (), ())
PAYS = ((2, 1), (1, 1), (3, 1))


def even_cases(seed, number):
    """Even tables in which each person has a house, and prices."""
    dice = random.Random(seed)
    for table in itertools.chain(even_tables(seed, number), ringless_tables(seed, number),
                                 filter(is_even, some_tables(seed, number, servable=True))):
        if all(any(one == name for one, _ in table.pairs) for name in table.people):
            yield table, random_prices(dice, table)


class ClassTest(unittest.TestCase):

    def test_equal(self):
        self.assertEqual(Meets(("x",), PAYS), Meets(opening=("x",), payments=PAYS))
        for other in (Meets(("y",), PAYS), Meets(("x",), PAYS[:2]), Meets(PAYS, ("x",)), (("x",), PAYS), None, PATH):
            self.assertNotEqual(Meets(("x",), PAYS), other)

    def test_any_values_are_kept(self):
        for value in ANY:
            made = Meets(value, [value])
            self.assertEqual((made.opening, made.payments), (value, [value]))
            self.assertIs(type(made.opening), type(value))
        names = ["x"]
        made = Meets(names, names)
        names.append("y")
        self.assertEqual((made.opening, made.payments), (["x"], ["x"]))


class BestTest(unittest.TestCase):

    def check_case(self, table, prices):
        call = {"table": table, "prices": prices}
        made = check_call(self, m.best, **call)
        self.assertIsInstance(made, Meets)
        self.assertTrue(check_meet(table, prices, made.opening, made.payments), (table.pairs, prices))
        self.assertIn(made.opening, least_openings(table, prices))
        self.assertIs(m.check_meets(table, prices, made), True)
        payments = check_call(self, m.whole_payments, **call)
        for some in (made.payments, payments):
            self.assertTrue(right_payments(table, prices, some))
            self.assertTrue(all(bottom == 1 for _, bottom in some))
            self.assertEqual(sum_of(some), sum_of(least_shares(table, prices)[1]))
        self.assertIs(check_call(self, m.meets, **call), True)
        for house in made.opening:
            paid = sum(value_of(pays) for name, pays in zip(table.people, made.payments) if name in serves(table, house))
            self.assertEqual(paid, dict(zip(table.houses, prices))[house])

    def test_example(self):
        self.assertEqual((m.meets(PATH, (2, 3, 4)), m.meets(RING, (1, 1, 1)), m.meets(RING, (1, 1, 2))),
                         (True, False, True))
        self.assertEqual((m.check_meets(PATH, (2, 3, 4), Meets(("x", "z"), PAYS)), m.best(PATH, (2, 3, 4)).opening),
                         (True, ("x", "z")))

    def test_even_tables(self):
        for table, prices in even_cases(1, 80):
            self.check_case(table, prices)
            self.check_case(table, (1,) * len(table.houses))

    def test_eight(self):
        dice = random.Random(2)
        for table in itertools.chain(ringless_tables(3, 20, most=8), even_tables(4, 20, most=8), [ring_table(8)]):
            if all(any(one == name for one, _ in table.pairs) for name in table.people):
                self.check_case(table, tuple(dice.randint(0, 10 ** 6 - 1) for _ in table.houses))
        for _ in range(60):
            table = random_table(dice, 8, 8, dice.choice((0.2, 0.85)), servable=True)
            if is_even(table):
                self.check_case(table, tuple(dice.randint(0, 10 ** 6 - 1) for _ in table.houses))

    def test_parts_left(self):
        dice = random.Random(5)
        for table, _ in even_cases(6, 20):
            houses = dice.sample(table.houses, min(3, len(table.houses)))
            people = [name for name in table.people if any((name, house) in table.pairs for house in houses)]
            part = left(table, people, houses)
            self.check_case(part, random_prices(dice, part))

    def test_nobody(self):
        self.assertEqual(m.best(EMPTY, ()), Meets((), ()))
        self.check_case(Table((), ("x", "y"), ()), (0, 3))


class MeetsTest(unittest.TestCase):

    def test_all_small_tables(self):
        for table in itertools.chain(tables_of_size(3, 3), some_tables(7, 60, servable=True)):
            for prices in ((1, 1, 1, 1, 1), (1, 1, 2, 1, 3), (0, 2, 1, 1, 1)):
                prices = prices[:len(table.houses)]
                if not openings_by_hand(table):
                    self.assertEqual(raised(m.meets, table=table, prices=prices), (Refused, "unserved"))
                    continue
                greatest = value_of(sum_of(least_shares(table, prices)[1]))
                told = check_call(self, m.meets, table=table, prices=prices)
                self.assertIs(told, greatest == least_price(table, prices))
                self.assertTrue(told or not is_even(table))

    def test_check_meets(self):
        dice = random.Random(8)
        for table in some_tables(9, 40, most=4):
            prices = random_prices(dice, table)
            payments = [tuple(dice.choice(((0, 1), (1, 1), (1, 2), (2, 1), (-1, 1))) for _ in table.people)
                        for _ in range(4)]
            if openings_by_hand(table):
                payments.append(least_shares(table, prices)[1])
            for some, opening in itertools.product(payments, subsets(table.houses)):
                wanted = (opening in openings_by_hand(table) and right_payments(table, prices, some)
                          and value_of(sum_of(some)) == price_of(table, prices, opening))
                self.assertIs(m.check_meets(table=table, prices=prices, value=Meets(opening, some)), wanted)

    def test_no_meets(self):
        for value in ((("x", "z"), PAYS), Meets(["x", "z"], PAYS), Meets(("x", "z"), list(PAYS)), Meets(("z", "x"), PAYS),
                      Meets(("x", "y", "z"), PAYS), Meets(("x", "z"), (2, 1, 3)), Meets(PAYS, ("x", "z")), None):
            self.assertIs(m.check_meets(PATH, (2, 3, 4), value), False)
        for value in ANY:
            for one in (value, Meets(value, PAYS), Meets(("x", "z"), value), Meets(("x", value), PAYS),
                        Meets(("x", "z"), PAYS[:2] + (value,))):
                self.assertIs(m.check_meets(PATH, (2, 3, 4), one), False)


class ErrorTest(unittest.TestCase):

    def check(self, table, prices, wanted, calls=(m.best, m.whole_payments, m.meets)):
        for call in calls:
            self.assertEqual(raised(call, table=table, prices=prices), wanted)
        if wanted[0] is InvalidPrices:
            self.assertEqual(raised(m.check_meets, table, prices, Meets((), ())), wanted)

    def test_prices_first(self):
        for prices in (None, 3, (1, 1), [1, 1, 1], (1, 1, 1, 1), "abc", ()):
            self.check(RING, prices, (InvalidPrices, -1))
        for wrong in (-1, True, None, "1", (1, 1), [1]):
            self.check(RING, (1, wrong, wrong), (InvalidPrices, 1))
            self.check(LONE, (wrong,), (InvalidPrices, 0))
        for value in ANY:
            self.check(RING, value, (InvalidPrices, 0 if isinstance(value, tuple) and len(value) == 3 else -1))
            if type(value) is not int or value < 0:
                self.check(RING, (1, 1, value), (InvalidPrices, 2))

    def test_then_unserved_then_odd(self):
        self.check(LONE, (1,), (Refused, "unserved"))
        both = table_of("abcd", "xyz", RING.pairs)
        self.check(both, (1, 1, 1), (Refused, "unserved"))
        self.check(RING, (1, 1, 2), (Refused, "odd"), calls=(m.best, m.whole_payments))
        self.check(ring_table(7), (0,) * 7, (Refused, "odd"), calls=(m.best, m.whole_payments))


if __name__ == "__main__":
    unittest.main()
