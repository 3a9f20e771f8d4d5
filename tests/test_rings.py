"""[17] Rings."""

import itertools
import random
import unittest

from servedall import rings as r
from servedall.errors import InvalidRing
from servedall.tables import Table, left, table_of, turned
from support import ANY, check_call, raised, random_table, rings_by_hand

TRIPLE = table_of("abc", "xyz", [("a", "x"), ("a", "y"), ("b", "y"), ("b", "z"), ("c", "x"), ("c", "z")])
MORE = table_of("abc", "xyz", TRIPLE.pairs + (("a", "z"),))
ROUND = (("a", "b", "c"), ("y", "z", "x"))


class RingTest(unittest.TestCase):

    def check(self, table, value, kept):
        self.assertEqual(raised(r.need_ring, table, value), (InvalidRing, kept))
        self.assertIs(r.is_ring(table, value), False)
        self.assertIs(r.is_odd_ring(table, value), False)

    def test_ring(self):
        self.assertEqual(raised(r.need_ring, table=TRIPLE, value=ROUND), (None, None))
        self.assertIs(r.is_ring(table=TRIPLE, value=ROUND), True)
        self.assertIs(r.is_odd_ring(table=TRIPLE, value=ROUND), True)

    def test_even_ring(self):
        four = table_of("abcd", "wxyz", [(p, h) for p, hs in zip("abcd", ("wz", "wx", "xy", "yz")) for h in hs])
        ring = (tuple("abcd"), tuple("wxyz"))
        self.assertIs(r.is_ring(four, ring), True)
        self.assertIs(r.is_odd_ring(four, ring), False)

    def test_no_pair_of_tuples(self):
        for value in (None, ROUND[0], list(ROUND), ROUND + ((),), (list(ROUND[0]), ROUND[1]), (ROUND[0], "xyz"),
                      (("a", "b"), ("x", "y", "z")), (("a", "b", "c"), ("x", "y")), (("a", "b"), ("x", "y")), ((), ())):
            self.check(TRIPLE, value, -1)

    def test_people_then_houses_then_places(self):
        for wrong in ("d", "x", 1, None, ["a"], ("a",), "b"):
            self.check(TRIPLE, (("a", "b", wrong), ("x", "x", "x")), (0, 2))
        self.check(TRIPLE, (("d", "b", "b"), ROUND[1]), (0, 0))
        self.check(TRIPLE, (("a", "a", "d"), ROUND[1]), (0, 1))
        for wrong in ("w", "a", 1, None, ["x"], "y"):
            self.check(TRIPLE, (ROUND[0], ("y", wrong, wrong)), (1, 1))
        self.check(TRIPLE, (("b", "a", "c"), ("y", "z", "x")), (2, 0))
        self.check(TRIPLE, (("a", "c", "b"), ("y", "z", "x")), (2, 1))
        self.check(MORE, ROUND, (2, 0))
        self.check(MORE, (("b", "c", "a"), ("z", "x", "y")), (2, 2))
        fewer = table_of("abc", "xyz", TRIPLE.pairs[:-1])
        self.check(fewer, ROUND, (2, 2))

    def test_any_value(self):
        for value in ANY:
            for table in (TRIPLE, Table((), (), ())):
                error, _ = raised(r.need_ring, table, value)
                self.assertIs(error, InvalidRing)
                self.assertIs(r.is_ring(table, value), False)
                self.assertIs(r.is_odd_ring(table, value), False)
            self.check(TRIPLE, (("a", "b", value), ROUND[1]), (0, 2))
            self.check(TRIPLE, (ROUND[0], (value, "y", "z")), (1, 0))

    def test_all_tried(self):
        dice = random.Random(1)
        for _ in range(12):
            table = random_table(dice, 4, 4, 0.6)
            all_rings = set(rings_by_hand(table))
            for many in (3, 4):
                for people in itertools.permutations(table.people, many):
                    for houses in itertools.permutations(table.houses, many):
                        self.assertIs(r.is_ring(table, (people, houses)), (people, houses) in all_rings)

    def test_other_houses_do_not_hinder(self):
        wide = table_of("abcd", "wxyz", TRIPLE.pairs + (("a", "w"), ("d", "x"), ("d", "y"), ("d", "z")))
        self.assertIs(r.is_odd_ring(wide, ROUND), True)
        self.assertEqual(check_call(self, r.ring_part, table=wide, ring=ROUND), TRIPLE)


class FormsTest(unittest.TestCase):

    def test_example(self):
        self.assertEqual(r.turned_ring(ring=ROUND), (("y", "z", "x"), ("b", "c", "a")))
        self.assertEqual(r.least_form(ring=(("c", "b", "a"), ("z", "y", "x"))), ROUND)

    def test_forms_are_the_rings_of_the_round(self):
        for many in (3, 4):
            names, houses = "abcd"[:many], "wxyz"[:many]
            table = table_of(names, houses, [(p, houses[k]) for at, p in enumerate(names) for k in (at, at - 1)])
            forms = sorted(rings_by_hand(table))
            self.assertEqual(len(forms), 2 * many)
            for ring in forms:
                self.assertEqual(check_call(self, r.ring_forms, ring=ring), tuple(forms))
                self.assertEqual(check_call(self, r.least_form, ring=ring), forms[0])
                other = check_call(self, r.turned_ring, ring=ring)
                self.assertTrue(r.is_ring(turned(table), other))
                self.assertIn(r.turned_ring(other), forms)

    def test_sixteen(self):
        names = tuple("abcdefghijklmnop")
        table = table_of(names, names, [(a, a) for a in names] + list(zip(names, names[1:] + names[:1])))
        ring = (names, names[1:] + names[:1])
        self.assertTrue(r.is_ring(table, ring))
        self.assertEqual(len(r.ring_forms(ring)), 32)
        self.assertTrue(all(r.is_ring(table, form) for form in r.ring_forms(ring)))

    def test_parts(self):
        self.assertEqual(r.ring_part(MORE, ROUND), left(MORE, ROUND[0], ROUND[1]))


if __name__ == "__main__":
    unittest.main()
