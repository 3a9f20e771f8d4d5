"""[37], [38], [39] Orders."""

import itertools
import random
import unittest

from servedall import orders as o
from servedall.errors import InvalidSize
from servedall.tables import Table, table_of
from support import ANY, check_call, raised, random_table, some_tables, tables_of_size
from test_rings import rings_by_hand

ROW = table_of("abc", "hij", [("a", "h"), ("a", "i"), ("b", "i"), ("b", "j"), ("c", "j")])
RING = table_of("abc", "hij", [("a", "h"), ("a", "i"), ("b", "i"), ("b", "j"), ("c", "h"), ("c", "j")])
ORDER = (("a", "b", "c"), ("h", "i", "j"))
EMPTY = Table((), (), ())


def bend_by_hand(table, order):
    """The least bent corner, found by trying all places."""
    people, houses = order
    for p, q in itertools.combinations(people, 2):
        for h, i in itertools.combinations(houses, 2):
            if (p, h) in table.pairs and (q, h) in table.pairs and (p, i) in table.pairs and (q, i) not in table.pairs:
                return (p, q, h, i)
    return None


def is_sorted_by_hand(table, order):
    people, houses = order
    rows = [tuple(int((p, h) in table.pairs) for h in reversed(houses)) for p in people]
    columns = [tuple(int((p, h) in table.pairs) for p in reversed(people)) for h in houses]
    return rows == sorted(rows) and columns == sorted(columns)


def random_order(dice, table):
    people, houses = list(table.people), list(table.houses)
    dice.shuffle(people)
    dice.shuffle(houses)
    return (tuple(people), tuple(houses))


class NeedTest(unittest.TestCase):

    def test_orders(self):
        for order in itertools.product(itertools.permutations("abc"), itertools.permutations("hij")):
            self.assertEqual(raised(o.need_order, table=ROW, value=order), (None, None))
        self.assertEqual(raised(o.need_order, EMPTY, ((), ())), (None, None))

    def test_no_orders(self):
        for value in (None, ORDER[0], list(ORDER), (list(ORDER[0]), ORDER[1]), (ORDER[0], "hij"), ORDER + ((),),
                      (("a", "b"), ORDER[1]), (("a", "b", "b"), ORDER[1]), (("a", "b", "c", "c"), ORDER[1]),
                      (("a", "b", "d"), ORDER[1]), (ORDER[0], ("h", "i")), (ORDER[0], ("h", "i", "i")), ORDER[::-1],
                      (ORDER[0], ("h", "i", "j", "k")), ((), ()), (("a", "b", 1), ORDER[1]),
                      (ORDER[0], ("h", ["i"], "j"))):
            self.assertEqual(raised(o.need_order, ROW, value), (InvalidSize, "order"), value)

    def test_any_value(self):
        for value in ANY:
            self.assertEqual(raised(o.need_order, ROW, value), (InvalidSize, "order"))
            self.assertEqual(raised(o.need_order, ROW, (("a", "b", value), ORDER[1])), (InvalidSize, "order"))
            self.assertEqual(raised(o.need_order, EMPTY, value)[0],
                             None if type(value) is tuple and value == ((), ()) else InvalidSize)


class BentTest(unittest.TestCase):

    def test_example(self):
        self.assertEqual((o.worth_of(ROW, ORDER), o.is_sorted(ROW, ORDER), o.bent_corner(ROW, ORDER)),
                         ((1, 1, 0, 0, 1, 0, 1, 0, 1), False, None))
        self.assertEqual((o.bent_corner(RING, ORDER), o.is_sorted(RING, ORDER)), (("a", "c", "h", "i"), False))

    def test_all_tried(self):
        dice = random.Random(1)
        for table in some_tables(2, 150):
            for order in [(table.people, table.houses), random_order(dice, table), o.sorted_order(table)]:
                self.assertEqual(check_call(self, o.bent_corner, table=table, order=order), bend_by_hand(table, order))
                self.assertIs(check_call(self, o.is_straight, table=table, order=order),
                              bend_by_hand(table, order) is None)
                self.assertIs(check_call(self, o.is_sorted, table=table, order=order), is_sorted_by_hand(table, order))


class SortedTest(unittest.TestCase):

    def test_sorted_orders(self):
        for table in itertools.chain(some_tables(3, 150, most=7), tables_of_size(3, 2)):
            order = check_call(self, o.sorted_order, table=table)
            self.assertEqual(raised(o.need_order, table, order), (None, None))
            self.assertTrue(is_sorted_by_hand(table, order))

    def test_sixteen(self):
        dice = random.Random(4)
        for density in (0, 0.1, 0.3, 0.6, 1):
            table = random_table(dice, 16, 16, density)
            self.assertTrue(is_sorted_by_hand(table, o.sorted_order(table)))
            self.assertEqual(o.bent_corner(table, (table.people, table.houses)),
                             bend_by_hand(table, (table.people, table.houses)))
            self.assertEqual(len(o.worth_of(table, (table.people, table.houses))), 256)

    def test_empty(self):
        for table in (EMPTY, Table(("a",), (), ()), Table((), ("x", "y"), ())):
            order = (table.people, table.houses)
            self.assertEqual((o.sorted_order(table), o.straight_order(table)), (order, order))
            self.assertEqual((o.bent_corner(table, order), o.is_sorted(table, order), o.worth_of(table, order)),
                             (None, True, ()))

    def test_worth(self):
        dice = random.Random(5)
        for table in some_tables(6, 60):
            people, houses = order = random_order(dice, table)
            places = sorted(itertools.product(range(len(people)), range(len(houses))),
                            key=lambda place: (-sum(place), place[0]))
            self.assertEqual(check_call(self, o.worth_of, table=table, order=order),
                             tuple(int((people[i], houses[j]) in table.pairs) for i, j in places))

    def test_people_changed_about_raise_the_worth(self):
        dice = random.Random(7)
        for table in some_tables(8, 60):
            people, houses = order = random_order(dice, table)
            rows = [tuple(int((p, h) in table.pairs) for h in reversed(houses)) for p in people]
            for i in range(len(people) - 1):
                if rows[i + 1] < rows[i]:
                    other = people[:i] + (people[i + 1], people[i]) + people[i + 2:]
                    self.assertGreater(o.worth_of(table, (other, houses)), o.worth_of(table, order))


class StraightTest(unittest.TestCase):

    def check_table(self, table):
        order = check_call(self, o.straight_order, table=table)
        self.assertIs(order is None, bool(rings_by_hand(table)))
        if order is not None:
            self.assertEqual(raised(o.need_order, table, order), (None, None))
            self.assertIsNone(bend_by_hand(table, order))

    def test_exactly_without_rings(self):
        for table in tables_of_size(3, 3):
            self.check_table(table)
        dice = random.Random(9)
        for _ in range(25):
            self.check_table(random_table(dice, 4, 4, dice.choice((0.3, 0.5, 0.7))))

    def test_each_order_of_a_ring_is_bent(self):
        for order in itertools.product(itertools.permutations("abc"), itertools.permutations("hij")):
            self.assertFalse(o.is_straight(RING, order))
        self.assertIsNone(o.straight_order(RING))


if __name__ == "__main__":
    unittest.main()
