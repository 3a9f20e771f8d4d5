"""[20], [21] Paints, and the houses that are taken and given back."""

import itertools
import random
import unittest

from servedall import painting as p
from servedall.apart import dot_table, ring_table
from servedall.errors import InvalidSize, Refused
from servedall.rings import is_odd_ring
from servedall.tables import Table, table_of
from servedall.ties import tie_ring
from support import (ANY, check_call, even_tables, raised, random_table, ringless_tables, rings_by_hand, some_tables,
                     subsets, tables_of_size)
from test_ties import lots_by_hand, ties_by_hand

RING = table_of("abc", "xyz", [("a", "x"), ("a", "y"), ("b", "y"), ("b", "z"), ("c", "x"), ("c", "z")])
MORE = table_of("abc", "xyz", RING.pairs + (("a", "z"),))
EMPTY = Table((), (), ())
ROUND = (("a", "b", "c"), ("y", "z", "x"))


def paints_by_hand(table):
    """All paints of a table."""
    lots = [{h for h in table.houses if (person, h) in table.pairs} for person in table.people]
    return [some for some in subsets(table.houses)
            if all(len(lot) < 2 or lot & set(some) and lot - set(some) for lot in lots)]


def loose_by_hand(table, houses):
    """The houses without which the others of their lot still are one, by the ties of all these houses."""
    links = [set(tie[:2]) for tie in ties_by_hand(table, houses)]
    found = []
    for lot in lots_by_hand(table, houses):
        for house in lot:
            others = set(lot) - {house}
            reached = set(list(others)[:1])
            for _ in others:
                reached |= {one for link in links if link <= others and link & reached for one in link}
            if reached == others:
                found.append(house)
    return tuple(sorted(found))


def is_taking_by_hand(table, order):
    return (sorted(order) == list(table.houses)
            and all(house in loose_by_hand(table, order[at:]) for at, house in enumerate(order)))


def given_back_by_hand(table, order):
    first = set()
    for at in reversed(range(len(order))):
        beside = {one for tie in ties_by_hand(table, order[at:]) if order[at] in tie[:2] for one in tie[:2]} - {order[at]}
        if beside and not beside & first:
            first.add(order[at])
    return tuple(sorted(first))


class PaintTest(unittest.TestCase):

    def test_example(self):
        self.assertEqual((p.is_paint(MORE, ("z",)), p.is_paint(MORE, ("y",)), p.is_paint(RING, ("x", "y")),
                          p.loose_houses(MORE, ("x", "y", "z"))), (True, False, False, ("x", "y")))
        self.assertEqual((p.painted_back(MORE, ("x", "y", "z")), p.painted_back(MORE, ("y", "x", "z"))),
                         (("x", "y"), ("x", "y")))

    def test_all_lots(self):
        for table in itertools.chain(tables_of_size(3, 3), some_tables(1, 40)):
            paints = paints_by_hand(table)
            for some in subsets(table.houses):
                self.assertIs(p.is_paint(table, some), some in paints)

    def test_no_paint(self):
        for value in (None, "z", ["z"], ("z", "z"), ("z", "x"), ("w",), ("a",), (["z"],), ("z", None), (0,), (True,)):
            self.assertIs(p.is_paint(table=MORE, value=value), False, value)
        self.assertIs(p.is_paint(EMPTY, ()), True)
        self.assertIs(p.is_paint(Table(("a",), ("x",), (("a", "x"),)), ("x",)), True)
        self.assertIs(p.is_paint(Table(("a",), ("x",), (("a", "x"),)), ()), True)

    def test_any_value(self):
        for value in ANY:
            self.assertIs(p.is_paint(MORE, value), False)
            self.assertIs(p.is_paint(MORE, ("z", value)), False)
            self.assertIs(p.is_paint(EMPTY, value), isinstance(value, tuple) and value == ())
            self.assertIs(p.check_painted(MORE, value), False)
            self.assertIs(p.check_painted(MORE, ("paint", value)), False)
            self.assertIs(p.check_painted(RING, ("ring", value)), False)
            self.assertIs(p.check_painted(MORE, (value, ("z",))), False)
            self.assertIs(p.check_painted(RING, (value, ROUND)), False)


class PaintedTest(unittest.TestCase):

    def check_table(self, table, even=False):
        value = check_call(self, p.painted, table=table)
        self.assertIs(p.check_painted(table, value), True)
        word, what = value
        if word == "paint":
            self.assertTrue(p.is_paint(table, what))
        else:
            self.assertEqual((word, even), ("ring", False))
            self.assertTrue(is_odd_ring(table, what))
        return word

    def test_all_small_tables(self):
        for table in itertools.chain(tables_of_size(3, 3), tables_of_size(0, 2), tables_of_size(2, 0)):
            word = self.check_table(table)
            self.assertTrue(word == "ring" or paints_by_hand(table))

    def test_all_kinds(self):
        words = set()
        for table in itertools.chain(some_tables(2, 100), [ring_table(9), dot_table(3), dot_table(4)]):
            words.add(self.check_table(table))
        self.assertEqual(words, {"paint", "ring"})
        for table in itertools.chain(even_tables(3, 60, most=10), ringless_tables(4, 60, most=10), [ring_table(16)]):
            self.check_table(table, even=True)
        dice = random.Random(5)
        for density in (0.1, 0.2, 0.3, 0.6):
            self.check_table(random_table(dice, 16, 16, density))

    def test_check(self):
        for table in itertools.chain([RING, MORE], some_tables(6, 30, most=4)):
            paints, rings = paints_by_hand(table), rings_by_hand(table)
            for some in subsets(table.houses):
                self.assertIs(p.check_painted(table=table, value=("paint", some)), some in paints)
                self.assertIs(p.check_painted(table, ("ring", some)), False)
            for ring in rings + [ROUND, (ROUND[1], ROUND[0])]:
                self.assertIs(p.check_painted(table, ("ring", ring)), ring in rings and len(ring[0]) % 2 == 1)
                self.assertIs(p.check_painted(table, ("paint", ring)), False)
        for value in (("z",), ["paint", ("z",)], ("paint", ("z",), ()), ("paint",), "paint", ("PAINT", ("z",)),
                      (("z",), "paint"), ("paint", ["z"]), ("ring", list(ROUND)), None):
            self.assertIs(p.check_painted(MORE, value), False, value)


class TakingTest(unittest.TestCase):

    def test_loose_houses(self):
        dice = random.Random(7)
        for table in itertools.chain(itertools.islice(tables_of_size(3, 3), 0, None, 3), some_tables(8, 60),
                                     even_tables(9, 40), [ring_table(7)]):
            for _ in range(3):
                houses = tuple(dice.sample(table.houses, dice.randint(0, len(table.houses))))
                found = check_call(self, p.loose_houses, table=table, houses=houses)
                self.assertEqual(found, loose_by_hand(table, houses))
                self.assertEqual(p.loose_houses(table, list(houses)), found)
                for lot in lots_by_hand(table, houses):
                    self.assertGreaterEqual(len(set(lot) & set(found)), min(2, len(lot)))
        self.assertEqual(p.loose_houses(EMPTY, ()), ())

    def check_order(self, table, order):
        call = {"table": table, "order": order}
        if not is_taking_by_hand(table, order):
            self.assertEqual(raised(p.painted_back, **call), (InvalidSize, "order"))
            return "order"
        if any(tie_ring(table, order[at:]) is not None for at in range(len(order))):
            self.assertEqual(raised(p.painted_back, **call), (Refused, "ring"))
            return "ring"
        paint = check_call(self, p.painted_back, **call)
        self.assertEqual(paint, given_back_by_hand(table, order))
        self.assertTrue(p.is_paint(table, paint), (table.pairs, order, paint))
        return "paint"

    def test_all_orders_of_small_tables(self):
        words = set()
        for table in itertools.chain([RING, MORE], itertools.islice(tables_of_size(3, 3), 0, None, 5),
                                     some_tables(10, 25, most=4)):
            for order in itertools.permutations(table.houses):
                words.add(self.check_order(table, order))
        self.assertEqual(words, {"order", "ring", "paint"})

    def test_takings_of_greater_tables(self):
        dice = random.Random(11)
        for table in itertools.chain(even_tables(12, 30, most=8), ringless_tables(13, 30, most=8)):
            for _ in range(3):
                order, still = (), table.houses
                while still:
                    house = dice.choice(loose_by_hand(table, still))
                    order += (house,)
                    still = tuple(other for other in still if other != house)
                self.assertEqual(self.check_order(table, order), "paint")
                self.check_order(table, tuple(dice.sample(order, len(order))))

    def test_rings_of_later_moments(self):
        # Each person has three houses at first: only when w is gone they make a ring of ties.
        wide = table_of("abc", "wxyz", RING.pairs + (("a", "w"), ("b", "w"), ("c", "w")))
        self.assertIsNone(tie_ring(wide, wide.houses))
        self.assertEqual(raised(p.painted_back, wide, ("w", "x", "y", "z")), (Refused, "ring"))
        self.assertEqual(p.painted_back(wide, ("x", "y", "w", "z")), given_back_by_hand(wide, ("x", "y", "w", "z")))
        self.assertEqual(raised(p.painted_back, RING, ("x", "y", "z")), (Refused, "ring"))

    def test_no_taking(self):
        for value in ((), ("x", "y"), ("x", "y", "z", "z"), ("z", "x", "y"), ["x", "y", "z"], "xyz", None, ("x", "x", "z"),
                      ("x", "y", "a"), ("x", "y", ["z"]), (("x", "y", "z"),)):
            self.assertEqual(raised(p.painted_back, table=MORE, order=value), (InvalidSize, "order"), value)
        self.assertEqual(p.painted_back(EMPTY, ()), ())
        for value in ANY:
            self.assertEqual(raised(p.painted_back, RING, value), (InvalidSize, "order"))
            self.assertEqual(raised(p.painted_back, MORE, ("x", "y", value)), (InvalidSize, "order"))
            if not isinstance(value, tuple) or value:
                self.assertEqual(raised(p.painted_back, EMPTY, value), (InvalidSize, "order"))


if __name__ == "__main__":
    unittest.main()
