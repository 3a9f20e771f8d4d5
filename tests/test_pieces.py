"""[9] Pieces of a table, and tables side by side."""

import functools
import itertools
import unittest

from servedall.errors import NoName, Refused
from servedall.pieces import beside, pieces, together_with
from servedall.tables import Table, is_table, left, table_of
from support import ANY, check_call, raised, some_tables, tables_of_size

TOWN = table_of(("ann", "bob", "cy"), ("x", "y"), (("bob", "y"), ("ann", "x"), ("ann", "y")))
EMPTY = Table((), (), ())


def reached_by_hand(table, person):
    """All people and houses to which pairs lead from a person."""
    people, houses = {person}, set()
    for _ in table.pairs:
        houses |= {h for p, h in table.pairs if p in people}
        people |= {p for p, h in table.pairs if h in houses}
    return tuple(sorted(people)), tuple(sorted(houses))


def pieces_by_hand(table):
    lots = []
    for person in table.people:
        if reached_by_hand(table, person) not in lots:
            lots.append(reached_by_hand(table, person))
    lots += [((), (house,)) for house in table.houses if not any(h == house for _, h in table.pairs)]
    return tuple(left(table, people, houses) for people, houses in lots)


class PiecesTest(unittest.TestCase):

    def check_table(self, table):
        for person in table.people:
            self.assertEqual(check_call(self, together_with, table=table, person=person),
                             reached_by_hand(table, person))
        parts = check_call(self, pieces, table=table)
        self.assertEqual(parts, pieces_by_hand(table))
        self.assertTrue(all(is_table(part) for part in parts))
        self.assertEqual(sorted(pair for part in parts for pair in part.pairs), sorted(table.pairs))
        self.assertEqual(functools.reduce(beside, parts, EMPTY), table)

    def test_example(self):
        self.assertEqual((len(pieces(TOWN)), together_with(TOWN, "bob")), (2, (("ann", "bob"), ("x", "y"))))
        self.assertEqual(pieces(TOWN), (left(TOWN, ("ann", "bob"), ("x", "y")), left(TOWN, ("cy",), ())))

    def test_all_small_tables(self):
        for many, houses in itertools.product(range(4), range(4)):
            for table in tables_of_size(many, houses):
                self.check_table(table)

    def test_some_tables(self):
        for table in some_tables(1, 60, most=8):
            self.check_table(table)
        self.check_table(table_of("abcdefghijklmnop", "abcdefghijklmnop", zip("abcdefghijklmnop", "bcdefghijklmnopa")))

    def test_edges(self):
        self.assertEqual(pieces(EMPTY), ())
        self.assertEqual(pieces(Table((), ("x", "y"), ())), (Table((), ("x",), ()), Table((), ("y",), ())))
        mixed = Table(("b", "c"), ("a", "d", "e"), (("c", "d"),))
        self.assertEqual([part.people + part.houses for part in pieces(mixed)],
                         [("b",), ("c", "d"), ("a",), ("e",)])

    def test_one_name_for_a_person_and_a_house(self):
        alike = Table(("a", "b", "x"), ("a", "b", "x"), (("a", "b"), ("b", "x")))
        self.assertEqual(together_with(alike, "a"), (("a",), ("b",)))
        self.assertEqual(together_with(alike, "x"), (("x",), ()))
        self.check_table(alike)

    def test_nobody(self):
        for value in ANY + ["x", "annn", ("ann",)]:
            for table in (TOWN, EMPTY):
                error, kept = raised(together_with, table=table, person=value)
                self.assertIs(error, NoName)
                self.assertIs(kept, value)


class BesideTest(unittest.TestCase):

    def test_all_of_both(self):
        other = Table(("dan", "x"), ("ann", "z"), (("dan", "ann"), ("x", "z")))
        whole = table_of(TOWN.people + other.people, TOWN.houses + other.houses, TOWN.pairs + other.pairs)
        self.assertEqual(check_call(self, beside, one=TOWN, other=other), whole)
        self.assertEqual(beside(other, TOWN), whole)
        self.assertEqual(beside(TOWN, EMPTY), TOWN)
        self.assertEqual(beside(EMPTY, EMPTY), EMPTY)

    def test_refused(self):
        for other in (Table(("cy",), (), ()), Table((), ("y",), ()), Table(("abe", "bob"), ("z",), ()), TOWN):
            self.assertEqual(raised(beside, TOWN, other), (Refused, "name"))
            self.assertEqual(raised(beside, one=other, other=TOWN), (Refused, "name"))


if __name__ == "__main__":
    unittest.main()
