"""[7], [8] Tables."""

import random
import unittest

from servedall import tables as t
from servedall.errors import InvalidTable, NoName
from servedall.roads import Roads
from servedall.tables import Table, table_of
from support import ANY, check_call, raised, some_tables, subsets

TOWN = table_of(("ann", "bob", "cy"), ("x", "y"), (("bob", "y"), ("ann", "x"), ("ann", "y")))
EMPTY = Table((), (), ())


class TableTest(unittest.TestCase):

    def test_it_keeps_any_values_as_they_are(self):
        for value in ANY:
            table = Table(value, [value], (value,))
            self.assertEqual((table.people, table.houses, table.pairs), (value, [value], (value,)))
        table = Table(pairs=3, houses=[2], people=None)
        self.assertEqual((table.people, table.houses, table.pairs), (None, [2], 3))

    def test_later_changes_do_not_show(self):
        people, within = ["ann"], ([1], [[2]])
        table = Table(people, within, people)
        people.append("bob")
        within[0].append(3)
        within[1][0].append(3)
        self.assertEqual((table.people, table.houses, table.pairs), (["ann"], ([1], [[2]]), ["ann"]))

    def test_equality(self):
        self.assertTrue(Table(1, 2, 3) == Table(1, 2, 3))
        for other in (Table(0, 2, 3), Table(1, 0, 3), Table(1, 2, 0), (1, 2, 3), None, Roads(1, 2)):
            self.assertFalse(Table(1, 2, 3) == other)
            self.assertTrue(Table(1, 2, 3) != other)
        self.assertFalse(Table((), (), ()) == Table([], (), ()))

    def test_no_length_no_iteration(self):
        self.assertFalse(hasattr(EMPTY, "__len__") or hasattr(EMPTY, "__iter__") or hasattr(EMPTY, "__getitem__"))


class NeedTest(unittest.TestCase):

    def check(self, table, kept):
        self.assertEqual(raised(t.need_table, table), (InvalidTable, kept))
        self.assertIs(t.is_table(table), False)

    def test_tables(self):
        for table in (TOWN, EMPTY, Table(("a",), (), ()), Table((), ("a",), ()), Table(("a",), ("a",), (("a", "a"),))):
            self.assertEqual(raised(t.need_table, value=table), (None, None))
            self.assertIs(t.is_table(value=table), True)

    def test_no_table_of_tuples(self):
        for value in (None, 3, (), ((), (), ()), Table([], (), ()), Table((), [], ()), Table((), (), []),
                      Table("ab", (), ()), Roads((), ()), Table((1,), (), [])):
            self.check(value, -1)

    def test_names(self):
        for name in ("", "A", "abcdefghi", 1, True, None, ("a",), ["a"], "a1", "a b", "\u00e9", EMPTY, b"a"):
            self.check(Table((name,), ("x",), ()), (0, 0))
            self.check(Table(("ann", name, name), ("x",), ()), (0, 1))
            self.check(Table(("ann",), (name, "x"), ()), (1, 0))
        self.assertIs(t.is_table(Table(("abcdefgh",), (), ())), True)

    def test_ascending(self):
        self.check(Table(("a", "a"), (), ()), (0, 1))
        self.check(Table(("a", "c", "b", 1), (), ()), (0, 2))
        self.check(Table(("a", "c"), ("y", "x"), ()), (1, 1))
        self.check(Table((), ("y", "y"), ()), (1, 1))

    def test_pairs(self):
        pair = ("ann", "x")
        for wrong in (("ann",), ["ann", "x"], ("x", "ann"), ("bob", "x"), ("ann", "z"), ("ann", "x", "x"), "ax", None,
                      ("ann", 1), (None, "x"), (("ann",), "x"), ("ann", ["x"])):
            self.check(Table(("ann",), ("x", "y"), (wrong,)), (2, 0))
            self.check(Table(("ann",), ("x", "y"), (pair, wrong, wrong)), (2, 1))
        self.check(Table(("ann",), ("x", "y"), (pair, pair)), (2, 1))
        self.check(Table(("ann",), ("x", "y"), (("ann", "y"), pair)), (2, 1))

    def test_order_of_errors(self):
        self.check(Table((1,), (1,), (1,)), (0, 0))
        self.check(Table(("a",), (1,), (1,)), (1, 0))
        self.check(Table((1,), (1,), [1]), -1)

    def test_any_value(self):
        for value in ANY:
            error, _ = raised(t.need_table, value)
            self.assertIs(t.is_table(value), error is None)
            self.assertIs(t.is_table(Table(value, value, value)), value == ())
            error, kept = raised(t.need_table, Table(("a",), ("x",), (value,)))
            self.assertEqual((error, kept), (InvalidTable, (2, 0)))


class TableOfTest(unittest.TestCase):

    def test_any_order_and_twice(self):
        dice = random.Random(4)
        for table in some_tables(5, 60):
            forms = [list(part) * 2 for part in (table.people, table.houses, table.pairs)]
            for form in forms:
                dice.shuffle(form)
            self.assertEqual(check_call(self, table_of, people=forms[0], houses=forms[1], pairs=forms[2]), table)
            self.assertEqual(table_of(*map(tuple, forms)), table)
            self.assertTrue(t.is_table(table))

    def test_later_changes_do_not_show(self):
        people, houses, pairs = ["a"], ["x"], [("a", "x")]
        table = table_of(people, houses, pairs)
        people.append("b"), houses.append("y"), pairs.append(("b", "y"))
        self.assertEqual(table, Table(("a",), ("x",), (("a", "x"),)))


class TellingTest(unittest.TestCase):

    def test_example(self):
        self.assertEqual((t.served_by(TOWN, "ann"), t.unserved(TOWN), t.grid(TOWN), t.most_houses(TOWN)),
                         (("x", "y"), ("cy",), ((1, 1), (0, 1), (0, 0)), 2))
        self.assertEqual((t.left(TOWN, ("ann", "bob"), ("x",)).pairs, t.turned(TOWN).pairs),
                         ((("ann", "x"),), (("x", "ann"), ("y", "ann"), ("y", "bob"))))

    def test_who_serves_whom(self):
        for table in some_tables(6, 60):
            for person in table.people:
                self.assertEqual(check_call(self, t.served_by, table=table, person=person),
                                 tuple(h for h in table.houses if (person, h) in table.pairs))
            for house in table.houses:
                self.assertEqual(check_call(self, t.serves, table=table, house=house),
                                 tuple(p for p in table.people if (p, house) in table.pairs))
            counts = [len(t.served_by(table, person)) for person in table.people]
            self.assertEqual(check_call(self, t.most_houses, table=table), max(counts, default=0))
            self.assertEqual(check_call(self, t.unserved, table=table),
                             tuple(p for p, count in zip(table.people, counts) if count == 0))
            self.assertIs(t.is_servable(table=table), 0 not in counts)
            counts = [len(t.serves(table, house)) for house in table.houses]
            self.assertEqual(check_call(self, t.most_people, table=table), max(counts, default=0))
            self.assertEqual(check_call(self, t.grid, table=table),
                             tuple(tuple(int((p, h) in table.pairs) for h in table.houses) for p in table.people))

    def test_nobody(self):
        for value in ANY:
            for table in (TOWN, EMPTY):
                for call in (t.served_by, t.serves):
                    error, kept = raised(call, table, value)
                    self.assertIs(error, NoName)
                    self.assertIs(kept, value)
        self.assertEqual(raised(t.served_by, TOWN, "x"), (NoName, "x"))
        self.assertEqual(raised(t.serves, TOWN, "ann"), (NoName, "ann"))

    def test_empty(self):
        self.assertEqual((t.unserved(EMPTY), t.is_servable(EMPTY), t.most_houses(EMPTY), t.most_people(EMPTY),
                          t.grid(EMPTY), t.turned(EMPTY)), ((), True, 0, 0, (), EMPTY))
        self.assertEqual(t.grid(Table(("a",), (), ())), ((),))
        self.assertEqual(t.most_people(Table((), ("x",), ())), 0)

    def test_one_name(self):
        table = table_of(("a", "b"), ("a", "b"), (("a", "b"),))
        self.assertEqual((t.served_by(table, "a"), t.serves(table, "a"), t.turned(table).pairs),
                         (("b",), (), (("b", "a"),)))
        self.assertEqual(t.without(table, ("a",), ()), Table(("b",), ("a", "b"), ()))


class LeftTest(unittest.TestCase):

    def test_parts_left(self):
        for table in some_tables(7, 12, most=3):
            for people in subsets(table.people):
                for houses in subsets(table.houses):
                    part = Table(people, houses, tuple(p for p in table.pairs if p[0] in people and p[1] in houses))
                    others = (tuple(p for p in table.people if p not in people),
                              tuple(h for h in table.houses if h not in houses))
                    mixed = people[::-1] + people, list(houses[::-1] + houses)
                    self.assertEqual(check_call(self, t.left, table=table, people=people, houses=houses), part)
                    self.assertEqual(t.left(table, list(mixed[0]), mixed[1]), part)
                    self.assertEqual(check_call(self, t.without, table=table, people=list(others[0]),
                                                houses=others[1]), part)

    def test_turned(self):
        for table in some_tables(8, 60):
            other = check_call(self, t.turned, table=table)
            self.assertTrue(t.is_table(other))
            self.assertEqual((other.people, other.houses), (table.houses, table.people))
            self.assertEqual(sorted((p, h) for h, p in other.pairs), list(table.pairs))
            self.assertEqual(t.turned(other), table)


if __name__ == "__main__":
    unittest.main()
