"""[18] Ties, and the rings of a table."""

import itertools
import random
import unittest

from servedall import ties as t
from servedall.apart import dot_table, ring_table
from servedall.orders import straight_order
from servedall.rings import is_odd_ring, is_ring, least_form
from servedall.tables import Table, left, table_of, turned
from support import (check_call, even_tables, random_table, ringless_tables, rings_by_hand, some_tables, subsets,
                     tables_of_size)

RING = table_of("abc", "xyz", [("a", "x"), ("a", "y"), ("b", "y"), ("b", "z"), ("c", "x"), ("c", "z")])
MORE = table_of("abc", "xyz", RING.pairs + (("a", "z"),))
EMPTY = Table((), (), ())


def own_by_hand(table, houses, person):
    return tuple(h for h in sorted(houses) if (person, h) in table.pairs)


def ties_by_hand(table, houses):
    found = {}
    for person in table.people:
        own = own_by_hand(table, houses, person)
        if len(own) == 2:
            found.setdefault(own, own + (person,))
    return tuple(sorted(found.values()))


def lots_by_hand(table, houses):
    """The lots by what comes from a house over ties, and over these, and so on."""
    lots = set()
    for house in houses:
        lot = {house}
        for _ in houses:
            lot |= {h for tie in ties_by_hand(table, houses) if set(tie[:2]) & lot for h in tie[:2]}
        lots.add(tuple(sorted(lot)))
    return tuple(sorted(lots))


def tie_rings_by_hand(table, houses):
    """All odd rings of some of the houses whose people are served by just two of all of these."""
    return [ring for ring in rings_by_hand(table) if len(ring[0]) % 2 == 1 and set(ring[1]) <= set(houses)
            and all(len(own_by_hand(table, houses, person)) == 2 for person in ring[0])]


class TiesTest(unittest.TestCase):

    def check_houses(self, table, houses, rings=True):
        call = {"table": table, "houses": houses}
        self.assertEqual(check_call(self, t.ties, **call), ties_by_hand(table, houses))
        self.assertEqual(t.ties(table, list(houses)), ties_by_hand(table, houses))
        self.assertEqual(check_call(self, t.tied_lots, **call), lots_by_hand(table, houses))
        self.assertEqual(t.tied_lots(table, list(houses)), lots_by_hand(table, houses))
        ring = check_call(self, t.tie_ring, **call)
        self.assertEqual(t.tie_ring(table, list(houses)) is None, ring is None)
        if ring is not None:
            self.assertTrue(is_odd_ring(table, ring), (table.pairs, houses, ring))
            self.assertTrue(set(ring[1]) <= set(houses))
            self.assertTrue(all(len(own_by_hand(table, houses, person)) == 2 for person in ring[0]))
        if rings:
            self.assertIs(ring is None, not tie_rings_by_hand(table, houses))

    def test_example(self):
        self.assertEqual((t.ties(MORE, ("x", "y", "z")), t.ties(MORE, ("x", "z"))),
                         ((("x", "z", "c"), ("y", "z", "b")), (("x", "z", "a"),)))

    def test_all_houses_of_small_tables(self):
        for table in itertools.chain([RING, MORE, EMPTY], itertools.islice(tables_of_size(3, 3), 0, None, 3)):
            for houses in subsets(table.houses):
                self.check_houses(table, houses)
                self.check_houses(table, houses[::-1])

    def test_some_tables(self):
        dice = random.Random(1)
        for table in some_tables(2, 60):
            for _ in range(3):
                self.check_houses(table, tuple(dice.sample(table.houses, dice.randint(0, len(table.houses)))))

    def test_long_rounds(self):
        dice = random.Random(3)
        for many in (5, 7, 8, 9, 15, 16):
            table = ring_table(many)
            self.check_houses(table, tuple(dice.sample(table.houses, many)), rings=False)
            self.assertIs(t.tie_ring(table, table.houses) is None, many % 2 == 0)
            self.check_houses(table, table.houses[1:], rings=False)
            self.assertIsNone(t.tie_ring(table, table.houses[1:]))
        for _ in range(20):
            pairs = [(name, house) for name in "abcdefghijklmnop" for house in dice.sample("klmnopqrstuvwxyz", 2)]
            table = table_of("abcdefghijklmnop", "klmnopqrstuvwxyz", pairs)
            self.check_houses(table, table.houses, rings=False)

    def test_least_person(self):
        alike = table_of("cba", "yx", itertools.product("abc", "xy"))
        self.assertEqual(t.ties(alike, ("y", "x")), (("x", "y", "a"),))
        self.assertEqual(t.tied_lots(alike, ["y", "x"]), (("x", "y"),))
        self.assertEqual((t.ties(alike, ("y",)), t.tied_lots(alike, ("y",))), ((), (("y",),)))
        self.assertEqual((t.ties(alike, ()), t.tied_lots(alike, ()), t.tie_ring(alike, ())), ((), (), None))


class RingsTest(unittest.TestCase):

    def check_table(self, table):
        rings = rings_by_hand(table)
        odd = [ring for ring in rings if len(ring[0]) % 2 == 1]
        for call, some in ((t.any_ring, rings), (t.odd_ring, odd)):
            found = check_call(self, call, table=table)
            self.assertIs(found is None, not some)
            if some:
                self.assertIn(found, some)
                self.assertEqual(len(found[0]), min(len(ring[0]) for ring in some))
        self.assertEqual(check_call(self, t.all_rings, table=table), tuple(sorted({least_form(ring) for ring in rings})))
        self.assertIs(check_call(self, t.is_even, table=table), not odd)
        self.assertIs(check_call(self, t.is_ringless, table=table), not rings)

    def test_example(self):
        self.assertEqual((least_form(t.odd_ring(RING)), t.odd_ring(MORE)), ((("a", "b", "c"), ("y", "z", "x")), None))

    def test_all_small_tables(self):
        for many, houses in ((0, 0), (0, 3), (3, 0), (2, 3), (3, 2), (3, 3)):
            for table in tables_of_size(many, houses):
                self.check_table(table)
        for table in itertools.islice(tables_of_size(4, 4), 0, None, 101):
            self.check_table(table)

    def test_all_kinds(self):
        for table in some_tables(4, 80):
            self.check_table(table)
        for table in even_tables(5, 60, most=6):
            self.check_table(table)
            self.assertIs(t.is_even(table), True)
        for table in ringless_tables(6, 30, most=6):
            self.check_table(table)
            self.assertIs(t.is_ringless(table), True)
        dice = random.Random(7)
        for _ in range(12):
            self.check_table(random_table(dice, 8, 5, 0.5))
            self.check_table(random_table(dice, 8, 6, 0.35))

    def test_parts_and_turned_tables(self):
        dice = random.Random(8)
        for table in itertools.chain(even_tables(9, 40), ringless_tables(10, 40)):
            part = left(table, dice.sample(table.people, len(table.people) // 2), dice.sample(table.houses, 1))
            for other in (part, turned(table)):
                self.assertIs(t.is_even(other), True)
                self.assertTrue(not t.is_ringless(table) or t.is_ringless(other))

    def test_one_ring(self):
        for many in range(3, 11):
            table = ring_table(many)
            self.assertTrue(is_ring(table, t.any_ring(table)))
            self.assertEqual(len(t.all_rings(table)), 1)
            self.assertEqual(len(t.all_rings(table)[0][0]), many)
            self.assertIs(t.is_even(table), many % 2 == 0)
            self.assertIs(t.is_ringless(table), False)
            self.assertIs(t.odd_ring(table) is None, many % 2 == 0)

    def test_even_ring_is_less_than_odd_ring(self):
        # A ring of four and one of five hang together by one house.
        pairs = [(p, h) for p, hs in zip("abcdefghi", ("qr", "rs", "st", "tq", "qu", "uv", "vw", "wx", "xq")) for h in hs]
        table = table_of("abcdefghi", "qrstuvwx", pairs)
        self.assertEqual((len(t.any_ring(table)[0]), len(t.odd_ring(table)[0]), len(t.all_rings(table))), (4, 5, 2))

    def test_ten_houses(self):
        dice = random.Random(11)
        for density in (0.15, 0.25, 0.4, 0.6):
            table = random_table(dice, 16, 10, density)
            rings = t.all_rings(table)
            self.assertEqual(rings, tuple(sorted(set(rings))))
            self.assertTrue(all(is_ring(table, ring) and ring == least_form(ring) for ring in rings))
            sizes = [len(ring[0]) for ring in rings]
            self.assertEqual(len(t.any_ring(table)[0]) if rings else None, min(sizes, default=None))
            odd = [size for size in sizes if size % 2 == 1]
            found = t.odd_ring(table)
            self.assertEqual(None if found is None else len(found[0]), min(odd, default=None))
            self.assertIs(t.is_ringless(table), not rings)
            self.assertIs(t.is_even(table), not odd)

    def test_houses_of_one_person(self):
        # Six more houses serve one person each: they are in no ring.
        pairs = list(ring_table(10).pairs) + list(zip("abcdef", "klmnop"))
        self.assertEqual([len(ring[0]) for ring in t.all_rings(table_of("abcdefghij", "abcdefghijklmnop", pairs))], [10])
        self.assertEqual(len(t.odd_ring(dot_table(3))[0]), 3)

    def test_edges(self):
        for table in (EMPTY, Table(("a",), (), ()), Table((), ("x", "y", "z"), ())):
            self.assertEqual((t.any_ring(table), t.odd_ring(table), t.all_rings(table)), (None, None, ()))
            self.assertEqual((t.is_even(table), t.is_ringless(table)), (True, True))
            self.assertIsNotNone(straight_order(table))


if __name__ == "__main__":
    unittest.main()
