"""[34] Odd rings, and the prices at which openings and payments part."""

import itertools
import unittest

from servedall import parting as p
from servedall.apart import ring_table
from servedall.errors import InvalidRing
from servedall.fractions import whole
from servedall.middle import meets
from servedall.openings import least_price
from servedall.parting import Parts
from servedall.prices import right_payments, sum_of
from servedall.rings import is_odd_ring, ring_forms, ring_part
from servedall.settling import least_shares
from servedall.tables import Table, left, table_of
from servedall.ties import is_even
from support import (ANY, check_call, even_tables, openings_by_hand, raised, ringless_tables, rings_by_hand,
                     some_tables, subsets, tables_of_size)

RING = table_of("abc", "xyz", [("a", "x"), ("a", "y"), ("b", "y"), ("b", "z"), ("c", "x"), ("c", "z")])
FOUR = table_of("abcd", "wxyz", [(a, h) for a, hs in zip("abcd", ("wz", "wx", "xy", "yz")) for h in hs])
ROUND = (("a", "b", "c"), ("y", "z", "x"))
RIGHT = Parts(ROUND, ("a", "b", "c"), ("x", "y", "z"), (1, 1, 1))
EMPTY = Table((), (), ())


class ClassTest(unittest.TestCase):

    def test_equal(self):
        self.assertEqual(RIGHT, Parts(ring=ROUND, people=("a", "b", "c"), houses=("x", "y", "z"), prices=(1, 1, 1)))
        values = [ROUND, ("a", "b", "c"), ("x", "y", "z"), (1, 1, 1)]
        for at in range(4):
            self.assertNotEqual(RIGHT, Parts(*values[:at], None, *values[at + 1:]))
        for other in (tuple(values), None, RING):
            self.assertNotEqual(RIGHT, other)

    def test_any_values_are_kept(self):
        for value in ANY:
            made = Parts(value, [value], (value,), value)
            self.assertEqual((made.ring, made.people, made.houses, made.prices), (value, [value], (value,), value))
        names = ["x"]
        made = Parts(names, (names,), names, names)
        names.append("y")
        self.assertEqual((made.ring, made.people, made.houses, made.prices), (["x"], (["x"],), ["x"], ["x"]))


class VerdictTest(unittest.TestCase):

    def check_table(self, table):
        found = check_call(self, p.verdict, table=table)
        self.assertIs(found is None, is_even(table))
        if found is not None:
            self.assertIsInstance(found, Parts)
            self.assertTrue(is_odd_ring(table, found.ring))
            self.assertEqual(found.people, tuple(sorted(found.ring[0])))
            self.assertEqual(found.houses, tuple(sorted(found.ring[1])))
            self.assertEqual(found.prices, (1,) * len(found.ring[0]))
            self.assertIs(check_call(self, p.check_parts, table=table, value=found), True)
            part = left(table, found.people, found.houses)
            self.assertIs(meets(part, found.prices), False)

    def test_all_kinds(self):
        for table in itertools.chain(itertools.islice(tables_of_size(3, 3), 0, None, 2), some_tables(1, 60), [EMPTY, RING],
                                     even_tables(2, 20), ringless_tables(3, 20), map(ring_table, range(3, 9))):
            self.check_table(table)

    def test_even_exactly_if_all_parts_meet_at_all_prices(self):
        for table in some_tables(4, 25, most=4):
            at_all = True
            for people, houses in itertools.product(subsets(table.people), subsets(table.houses)):
                part = left(table, people, houses)
                if openings_by_hand(part):
                    for prices in itertools.product((0, 1, 2), repeat=len(houses)):
                        at_all = at_all and meets(part, prices)
            self.assertIs(at_all, p.verdict(table) is None)

    def test_check_parts(self):
        for table in itertools.chain(some_tables(5, 40), [RING, FOUR]):
            for ring in rings_by_hand(table)[:40]:
                people, houses = tuple(sorted(ring[0])), tuple(sorted(ring[1]))
                odd = len(people) % 2 == 1
                ones = (1,) * len(people)
                self.assertIs(p.check_parts(table=table, value=Parts(ring, people, houses, ones)), odd)
                for other in (Parts(ring, people[1:], houses, ones), Parts(ring, people, houses[:-1], ones),
                              Parts(ring, people[::-1], houses, ones), Parts(ring, people, houses[::-1], ones),
                              Parts(ring, people, houses, ones[1:]), Parts(ring, people, houses, (1, 2) + ones[2:]),
                              Parts(ring, people, houses, (True,) + ones[1:]), Parts(list(ring), people, houses, ones),
                              Parts(ring, list(people), houses, ones), Parts(ring, people, houses, list(ones)),
                              Parts(ring, ("zz",) + people[1:], houses, ones), (ring, people, houses, ones)):
                    self.assertIs(p.check_parts(table, other), False)

    def test_all_forms(self):
        for ring in ring_forms(ROUND):
            self.assertIs(p.check_parts(RING, Parts(ring, ("a", "b", "c"), ("x", "y", "z"), (1, 1, 1))), True)

    def test_any_value(self):
        for value in ANY:
            for one in (value, Parts(value, RIGHT.people, RIGHT.houses, RIGHT.prices),
                        Parts(ROUND, value, RIGHT.houses, RIGHT.prices), Parts(ROUND, RIGHT.people, value, RIGHT.prices),
                        Parts(ROUND, RIGHT.people, RIGHT.houses, value)):
                self.assertIs(p.check_parts(RING, one), False)
                self.assertIs(p.check_parts(EMPTY, one), False)
        self.assertIs(p.check_parts(RING, RIGHT), True)


class GapTest(unittest.TestCase):

    def test_odd_rings(self):
        cases = [(ring_table(many), p.verdict(ring_table(many)).ring) for many in (3, 5, 7)]
        cases += [(table, ring) for table in some_tables(7, 60) for ring in rings_by_hand(table)[:3]
                  if len(ring[0]) % 2 == 1]
        for table, ring in cases:
            part = ring_part(table, ring)
            ones = (1,) * len(part.houses)
            least, greatest = check_call(self, p.gap_of, table=table, ring=ring)
            self.assertEqual(least, whole(least_price(part, ones)))
            self.assertEqual(greatest, sum_of(least_shares(part, ones)[1]))
            payments = check_call(self, p.half_payments, table=table, ring=ring)
            self.assertEqual(payments, ((1, 2),) * len(part.people))
            self.assertTrue(right_payments(part, ones, payments))
            self.assertEqual(sum_of(payments), greatest)

    def test_three_and_five(self):
        self.assertEqual(p.gap_of(RING, ROUND), ((2, 1), (3, 2)))
        five = ring_table(5)
        self.assertEqual(p.gap_of(five, p.verdict(five).ring), ((3, 1), (5, 2)))

    def test_no_odd_ring(self):
        even = (("a", "b", "c", "d"), ("w", "x", "y", "z"))
        for table, value in ((RING, None), (RING, list(ROUND)), (RING, (("b", "a", "c"), ("y", "z", "x"))), (FOUR, even),
                             (EMPTY, ROUND), (RING, (ROUND[1], ROUND[0])), (RING, (("a", "b"), ("x", "y"))), (FOUR, ROUND)):
            for call in (p.gap_of, p.half_payments):
                self.assertEqual(raised(call, table=table, ring=value), (InvalidRing, -1))
        for value in ANY:
            for call in (p.gap_of, p.half_payments):
                self.assertEqual(raised(call, RING, value), (InvalidRing, -1))
                self.assertEqual(raised(call, RING, (ROUND[0], ("y", "z", value))), (InvalidRing, -1))


if __name__ == "__main__":
    unittest.main()
