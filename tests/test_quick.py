"""[64] Quick openings and their payments."""

import random
import unittest
from fractions import Fraction

from servedall import quick as q
from servedall.apart import dot_table, ring_table
from servedall.errors import Refused
from servedall.openings import is_opening, least_price, price_of
from servedall.prices import right_payments
from servedall.tables import Table, most_people, table_of
from support import check_call, pair_of, raised, random_prices, random_table, some_tables, value_of

EMPTY = Table((), (), ())


def rows_by_hand(table, prices):
    """Each time the house with the least price for each of those whom it newly serves, and then the least name."""
    still, rows = set(table.people), []
    while still:
        found = []
        for house, price in zip(table.houses, prices):
            people = tuple(sorted(p for p in still if (p, house) in table.pairs))
            if people:
                found.append((Fraction(price, len(people)), house, people))
        _, house, people = min(found)
        rows.append((house, people))
        still -= set(people)
    return tuple(rows)


class QuickTest(unittest.TestCase):

    def check_table(self, table, prices):
        call = {"table": table, "prices": prices}
        rows = check_call(self, q.quick_rows, **call)
        self.assertEqual(rows, rows_by_hand(table, prices))
        opening = check_call(self, q.quick_opening, **call)
        self.assertEqual(opening, tuple(sorted(house for house, _ in rows)))
        self.assertTrue(is_opening(table, opening))
        harmonic = sum(Fraction(1, one) for one in range(1, most_people(table) + 1))
        price = dict(zip(table.houses, prices))
        pays = {p: Fraction(price[house], len(people)) / harmonic for house, people in rows for p in people}
        payments = check_call(self, q.quick_payments, **call)
        self.assertEqual(payments, tuple(pair_of(pays[p]) for p in table.people))
        self.assertTrue(right_payments(table, prices, payments))
        self.assertLessEqual(price_of(table, prices, opening), harmonic * least_price(table, prices))

    def test_example(self):
        five = ring_table(5)
        self.assertEqual((q.quick_opening(five, (1,) * 5), q.quick_payments(five, (1,) * 5)[4]),
                         (("a", "c", "d"), (2, 3)))

    def test_all_kinds(self):
        dice = random.Random(1)
        for table in some_tables(2, 100, most=6, servable=True):
            for prices in (random_prices(dice, table), (1,) * len(table.houses), (0,) * len(table.houses)):
                self.check_table(table, prices)

    def test_ten(self):
        dice = random.Random(3)
        for density in (0.2, 0.5):
            table = random_table(dice, 10, 10, density, servable=True)
            self.check_table(table, tuple(dice.randint(0, 10 ** 6) for _ in range(10)))
        self.check_table(dot_table(3), (5,) * 7)

    def test_alike_and_free_houses(self):
        table = table_of("abc", "xyz", [("a", "x"), ("a", "y"), ("b", "y"), ("b", "z"), ("c", "z")])
        self.assertEqual(q.quick_rows(table, (1, 2, 2)), (("x", ("a",)), ("z", ("b", "c"))))
        self.assertEqual(q.quick_rows(table, (2, 4, 4)), (("x", ("a",)), ("z", ("b", "c"))))
        self.assertEqual(q.quick_rows(table, (0, 0, 0)), (("x", ("a",)), ("y", ("b",)), ("z", ("c",))))
        # A free house that newly serves nobody is not opened.
        self.assertEqual(q.quick_rows(table, (5, 1, 0)), (("z", ("b", "c")), ("y", ("a",))))
        self.assertEqual(q.quick_opening(Table(("a",), ("x", "y"), (("a", "y"),)), (0, 3)), ("y",))

    def test_harmonic(self):
        for number, wanted in ((0, (0, 1)), (1, (1, 1)), (2, (3, 2)), (3, (11, 6)), (16, (2436559, 720720))):
            self.assertEqual(check_call(self, q.harmonic, number=number), wanted)
        self.assertEqual(value_of(q.harmonic(40)), sum(Fraction(1, one) for one in range(1, 41)))

    def test_nobody(self):
        for table, prices in ((EMPTY, ()), (Table((), ("x",), ()), (3,))):
            self.assertEqual((q.quick_rows(table, prices), q.quick_opening(table, prices),
                              q.quick_payments(table, prices)), ((), (), ()))

    def test_unserved(self):
        for table, prices in ((Table(("a", "b"), ("x",), (("b", "x"),)), (1,)), (Table(("a",), (), ()), ())):
            for call in (q.quick_rows, q.quick_opening, q.quick_payments):
                self.assertEqual(raised(call, table=table, prices=prices), (Refused, "unserved"))


if __name__ == "__main__":
    unittest.main()
