"""[40] Rings by bent corners."""

import itertools
import random
import unittest

from servedall.bends import ring_by
from servedall.errors import Refused
from servedall.orders import bent_corner, is_sorted, is_straight, sorted_order
from servedall.rings import is_ring
from servedall.tables import Table, table_of
from support import check_call, raised, random_table, some_tables, tables_of_size

RING = table_of("abc", "hij", [("a", "h"), ("a", "i"), ("b", "i"), ("b", "j"), ("c", "h"), ("c", "j")])


class BendsTest(unittest.TestCase):

    def check_order(self, table, order):
        bend = bent_corner(table, order)
        if not is_sorted(table, order):
            self.assertEqual(raised(ring_by, table, order), (Refused, "sorted"))
        elif bend is None:
            self.assertEqual(raised(ring_by, table=table, order=order), (Refused, "straight"))
        else:
            ring = check_call(self, ring_by, table=table, order=order)
            self.assertTrue(is_ring(table, ring), (table.pairs, order, ring))
            at = ring[0].index(bend[0])
            self.assertEqual({ring[1][at], ring[1][at - 1]}, {bend[2], bend[3]})
            return 1
        return 0

    def test_all_orders_of_small_tables(self):
        found = 0
        for table in itertools.chain([RING], itertools.islice(tables_of_size(3, 3), 0, None, 7)):
            for order in itertools.product(itertools.permutations(table.people), itertools.permutations(table.houses)):
                found += self.check_order(table, order)
        self.assertGreater(found, 0)

    def test_sorted_orders(self):
        found = 0
        dice = random.Random(1)
        for table in some_tables(2, 300, most=7):
            found += self.check_order(table, sorted_order(table))
        for many in (8, 12, 16):
            for density in (0.15, 0.3, 0.5):
                table = random_table(dice, many, many, density)
                found += self.check_order(table, sorted_order(table))
        self.assertGreater(found, 30)

    def test_long_ring(self):
        names = "abcdefghijklmnop"
        table = table_of(names, names, [(a, a) for a in names] + list(zip(names, names[1:] + names[:1])))
        order = sorted_order(table)
        self.assertFalse(is_straight(table, order))
        self.assertEqual(len(ring_by(table, order)[0]), 16)

    def test_refused(self):
        row = table_of("abc", "hij", [("a", "h"), ("a", "i"), ("b", "i"), ("b", "j"), ("c", "j")])
        order = (("a", "b", "c"), ("h", "i", "j"))
        self.assertEqual(raised(ring_by, row, order), (Refused, "sorted"))
        self.assertEqual(raised(ring_by, RING, order), (Refused, "sorted"))
        self.assertEqual(raised(ring_by, row, sorted_order(row)), (Refused, "straight"))
        self.assertEqual(raised(ring_by, Table((), (), ()), ((), ())), (Refused, "straight"))


if __name__ == "__main__":
    unittest.main()
