"""[66] Tables whose openings cost more than shares."""

import random
import unittest
from fractions import Fraction

from servedall.apart import distance, dot_table, ring_table
from servedall.errors import InvalidSize, Refused
from servedall.openings import least_openings, least_price
from servedall.prices import sum_of
from servedall.rings import is_odd_ring, is_ring
from servedall.settling import least_shares
from servedall.tables import Table, is_table, serves
from support import ANY, check_call, pair_of, raised, random_prices, some_tables, value_of

LETTERS = "abcdefghijklmnop"


class RingTest(unittest.TestCase):

    def test_all_sizes(self):
        for size in range(3, 17):
            table = check_call(self, ring_table, size=size)
            self.assertTrue(is_table(table))
            self.assertEqual((table.people, table.houses), (tuple(LETTERS[:size]),) * 2)
            self.assertEqual(set(table.pairs), {(p, LETTERS[:size][k]) for at, p in enumerate(table.people)
                                                for k in (at, at - 1)})
            self.assertTrue(is_ring(table, (table.people, table.houses)))
            self.assertIs(is_odd_ring(table, (table.people, table.houses)), size % 2 == 1)
            self.assertEqual(least_price(table, (1,) * size), (size + 1) // 2)
            self.assertEqual(sum_of(least_shares(table, (1,) * size)[1]), pair_of(Fraction(size, 2)))

    def test_example(self):
        self.assertEqual(serves(ring_table(5), "a"), ("a", "b"))
        self.assertEqual(serves(ring_table(5), "e"), ("a", "e"))

    def test_sizes(self):
        for size in (2, 17, 0, -3, True, None, "3", (3,), [3], 10 ** 30):
            self.assertEqual(raised(ring_table, size), (InvalidSize, "size"))
        for value in ANY:
            self.assertEqual(raised(ring_table, value), (InvalidSize, "size"))


class DotTest(unittest.TestCase):

    def test_all_sizes(self):
        for size in range(1, 5):
            table = check_call(self, dot_table, size=size)
            self.assertTrue(is_table(table))
            names = tuple(LETTERS[:2 ** size - 1])
            self.assertEqual((table.people, table.houses), (names, names))
            self.assertEqual(table.pairs, tuple((names[i - 1], names[j - 1]) for i in range(1, 2 ** size)
                                                for j in range(1, 2 ** size) if bin(i & j).count("1") % 2))
            ones = (1,) * len(names)
            self.assertLess(value_of(sum_of(least_shares(table, ones)[1])), 2)
            self.assertEqual(least_price(table, ones), size)
            self.assertTrue(all(len(opening) >= size for opening in least_openings(table, ones)))

    def test_example(self):
        self.assertEqual(len(dot_table(2).pairs), 6)
        self.assertEqual(dot_table(1), Table(("a",), ("a",), (("a", "a"),)))

    def test_sizes(self):
        for size in (0, 5, -1, True, None, "1", (1,), 10 ** 30):
            self.assertEqual(raised(dot_table, size), (InvalidSize, "size"))
        for value in ANY:
            error, kept = raised(dot_table, value)
            self.assertEqual((error, kept) == (InvalidSize, "size"), not (type(value) is int and value == 1))


class DistanceTest(unittest.TestCase):

    def test_example(self):
        self.assertEqual(distance(ring_table(5), (1, 1, 1, 1, 1), 3), (6, 5))

    def test_over_the_least_cost(self):
        dice = random.Random(1)
        for table in some_tables(2, 60, servable=True):
            prices = random_prices(dice, table)
            cost = value_of(sum_of(least_shares(table, prices)[1]))
            for price in (0, 1, 10 ** 6, least_price(table, prices)):
                if cost == 0:
                    self.assertEqual(raised(distance, table, prices, price), (Refused, "free"))
                else:
                    self.assertEqual(check_call(self, distance, table=table, prices=prices, price=price),
                                     pair_of(price / cost))

    def test_refused(self):
        self.assertEqual(raised(distance, Table(("a",), ("x",), ()), (0,), 1), (Refused, "unserved"))
        self.assertEqual(raised(distance, Table((), (), ()), (), 1), (Refused, "free"))
        self.assertEqual(raised(distance, ring_table(3), (0, 0, 0), price=0), (Refused, "free"))

    def test_all_sizes(self):
        for size in range(1, 5):
            table = dot_table(size)
            self.assertGreater(value_of(distance(table, (1,) * len(table.houses), size)), Fraction(size, 2))
        self.assertEqual(distance(dot_table(4), (10 ** 6,) * 15, 4 * 10 ** 6), (32, 15))


if __name__ == "__main__":
    unittest.main()
