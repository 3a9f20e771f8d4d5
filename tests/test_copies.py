"""[30] Copies of houses, and coats."""

import itertools
import random
import unittest

from servedall import copies as c
from servedall.apart import ring_table
from servedall.errors import InvalidSize, Refused
from servedall.tables import Table, is_table, served_by, serves, table_of
from servedall.ties import is_even
from support import ANY, check_call, even_tables, raised, random_table, ringless_tables, rings_by_hand, some_tables

RING = table_of("abc", "xyz", [("a", "x"), ("a", "y"), ("b", "y"), ("b", "z"), ("c", "x"), ("c", "z")])
PATH = table_of("abc", "xyz", [("a", "x"), ("a", "y"), ("b", "y"), ("b", "z"), ("c", "z")])
EMPTY = Table((), (), ())


def are_coats_by_hand(table, many, paints):
    if any(paint >= many for paint in paints):
        return False
    by = dict(zip(table.houses, paints))
    lots = [[h for h in table.houses if (person, h) in table.pairs] for person in table.people]
    return all(len({by[h] for h in lot}) >= min(many, len(lot)) for lot in lots)


class CopiedTest(unittest.TestCase):

    def test_example(self):
        self.assertEqual((c.copied(PATH, (0, 1, 2))[1], c.copied(PATH, (1, 0, 1))[0].pairs),
                         (("y", "z", "z"), (("a", "aa"), ("b", "ab"), ("c", "ab"))))

    def test_all_kinds(self):
        dice = random.Random(1)
        for table in some_tables(2, 60):
            copies = tuple(dice.randint(0, 3) for _ in table.houses)
            wide, owners = check_call(self, c.copied, table=table, copies=copies)
            self.assertTrue(is_table(wide))
            self.assertEqual(owners, tuple(h for h, many in zip(table.houses, copies) for _ in range(many)))
            self.assertEqual((wide.people, len(wide.houses)), (table.people, sum(copies)))
            for name, owner in zip(wide.houses, owners):
                self.assertEqual(serves(wide, name), serves(table, owner))
            if len(table.houses) <= 4:
                few = c.copied(table, tuple(min(2, many) for many in copies))[0]
                if is_even(table) and len(few.houses) <= 6:
                    self.assertTrue(all(len(ring[0]) % 2 == 0 for ring in rings_by_hand(few)))

    def test_names(self):
        wide, owners = c.copied(Table(("a",), ("x", "y"), (("a", "y"),)), (27, 573))
        self.assertEqual((len(owners), owners[26:28]), (600, ("x", "y")))
        letters = "abcdefghijklmnopqrstuvwxyz"
        self.assertEqual(wide.houses, tuple(one + two for one in letters for two in letters)[:600])
        self.assertEqual(wide.houses[25:28], ("az", "ba", "bb"))
        self.assertEqual(served_by(wide, "a"), wide.houses[27:])
        self.assertTrue(is_table(wide))

    def test_no_copies(self):
        self.assertEqual(c.copied(PATH, (0, 0, 0)), (Table(("a", "b", "c"), (), ()), ()))
        self.assertEqual(c.copied(EMPTY, ()), (EMPTY, ()))
        self.assertEqual(c.copied(PATH, (1, 1, 1))[1], ("x", "y", "z"))

    def test_wrong_copies(self):
        for copies in ((1, 1), (1, 1, 1, 1), [1, 1, 1], None, "abc", (1, -1, 1), (1, True, 1), (1, None, 1), (1, 1, "1"),
                       (200, 200, 201), (601, 0, 0), (0, 10 ** 4000 - 1, 0), ((1, 1), (1, 1), (1, 1)), 3, ()):
            self.assertEqual(raised(c.copied, table=PATH, copies=copies), (InvalidSize, "copies"), copies)
        for value in ANY:
            self.assertEqual(raised(c.copied, PATH, value), (InvalidSize, "copies"))
            if value not in (0, 1) or isinstance(value, bool):
                self.assertEqual(raised(c.copied, PATH, (1, value, 1)), (InvalidSize, "copies"))
        self.assertEqual(len(c.copied(PATH, (200, 200, 200))[1]), 600)


class CoatsTest(unittest.TestCase):

    def test_example(self):
        self.assertEqual((c.seen(PATH, (0, 1, 0)), c.check_coats(RING, 2, (0, 1, 0))), ((2, 2, 1), False))

    def test_seen(self):
        dice = random.Random(3)
        for table in some_tables(4, 60):
            paints = tuple(dice.choice((0, 1, 2, 10 ** 30)) for _ in table.houses)
            by = dict(zip(table.houses, paints))
            self.assertEqual(check_call(self, c.seen, table=table, paints=paints),
                             tuple(len({by[h] for h in served_by(table, person)}) for person in table.people))

    def test_all_paints_of_small_tables(self):
        for table in itertools.chain([RING, PATH, EMPTY], some_tables(5, 30, most=3)):
            for many in (1, 2, 3, 60):
                for paints in itertools.product(range(4), repeat=len(table.houses)):
                    self.assertIs(c.check_coats(table=table, many=many, value=paints),
                                  are_coats_by_hand(table, many, paints))

    def test_no_coats(self):
        for value in ((0, 1), (0, 1, 0, 1), [0, 1, 0], None, (0, -1, 0), (0, True, 0), (False, 1, 0), (0, 2, 0), (0, None, 1)):
            self.assertIs(c.check_coats(PATH, 2, value), False, value)
        self.assertIs(c.check_coats(PATH, 2, (0, 1, 0)), True)
        for value in ANY:
            self.assertIs(c.check_coats(PATH, 2, value), False)
            self.assertIs(c.check_coats(PATH, 2, (1, value, 1)), type(value) is int and value == 0)
            self.assertIs(c.check_coats(EMPTY, 2, value), isinstance(value, tuple) and value == ())

    def check_table(self, table, many):
        paints = check_call(self, c.coats, table=table, many=many)
        self.assertTrue(are_coats_by_hand(table, many, paints), (table.pairs, many, paints))
        self.assertIs(check_call(self, c.check_coats, table=table, many=many, value=paints), True)

    def test_some_coats(self):
        for table in itertools.chain(even_tables(6, 60, most=8), ringless_tables(7, 60, most=8), [EMPTY, PATH]):
            for many in (1, 2, 3, 4, 8, 60):
                self.check_table(table, many)
        for table in some_tables(8, 60):
            if rings_by_hand(table) and not is_even(table):
                self.assertEqual(raised(c.coats, table, 2), (Refused, "odd"))
            else:
                self.check_table(table, 3)

    def test_dense_tables(self):
        dice = random.Random(9)
        for _ in range(40):
            table = random_table(dice, 8, 8, 0.85)
            for many in (2, 5):
                if is_even(table):
                    self.check_table(table, many)

    def test_wide_tables(self):
        # What a copied table shows may be passed on, if few of its houses have two people or more.
        wide = c.copied(table_of("abc", "xyz", [("a", "x"), ("b", "x"), ("b", "y"), ("c", "z")]), (3, 60, 60))[0]
        for many in (1, 2, 30, 60):
            self.check_table(wide, many)

    def test_many(self):
        for many in (0, 61, -1, True, None, "2", (2,), [2], 10 ** 4000 - 1):
            for table in (PATH, RING):
                self.assertEqual(raised(c.coats, table=table, many=many), (InvalidSize, "many"))
                self.assertEqual(raised(c.check_coats, table=table, many=many, value=None), (InvalidSize, "many"))
        for value in ANY:
            if type(value) is not int or value != 1:
                self.assertEqual(raised(c.coats, RING, value), (InvalidSize, "many"))
                self.assertEqual(raised(c.check_coats, RING, value, (0, 1, 0)), (InvalidSize, "many"))
        for many in (1, 2, 60):
            self.assertEqual(raised(c.coats, RING, many), (Refused, "odd"))
        self.assertEqual(raised(c.coats, ring_table(7), 1), (Refused, "odd"))


if __name__ == "__main__":
    unittest.main()
