"""[19] Loops, and how they are cut into rings."""

import itertools
import random
import unittest

from servedall import loops as o
from servedall.errors import InvalidRing
from servedall.rings import is_ring
from servedall.tables import Table, table_of
from support import ANY, check_call, raised, random_table, ringless_tables, rings_by_hand

TRIPLE = table_of("abc", "xyz", [("a", "x"), ("a", "y"), ("b", "y"), ("b", "z"), ("c", "x"), ("c", "z")])
MORE = table_of("abc", "xyz", TRIPLE.pairs + (("a", "z"),))
LOOP = (("a", "b", "c"), ("y", "z", "x"))
WHOLE = ("whole",)


def full(many):
    """A table in which each house serves each person, and a loop of all of them."""
    names, houses = "abcdefghij"[:many], "klmnopqrst"[:many]
    return table_of(names, houses, itertools.product(names, houses)), (tuple(names), tuple(houses))


def loops_by_hand(table):
    """All loops of a table, in all forms."""
    found = []
    for many in range(2, min(len(table.people), len(table.houses)) + 1):
        for houses in itertools.permutations(table.houses, many):
            for people in itertools.permutations(table.people, many):
                if all((p, houses[at]) in table.pairs and (p, houses[at - 1]) in table.pairs
                       for at, p in enumerate(people)):
                    found.append((people, houses))
    return found


def chords_by_hand(table, loop):
    people, houses = loop
    return tuple((i, j) for i, p in enumerate(people) for j, h in enumerate(houses)
                 if h not in (houses[i], houses[i - 1]) and (p, h) in table.pairs)


def going_round(names, start, end):
    """The names from one place to another one, step by step."""
    found = [names[start]]
    while start != end:
        start = (start + 1) % len(names)
        found.append(names[start])
    return tuple(found)


def cut_by_hand(loop, chord):
    people, houses = loop
    i, j = chord
    many = len(people)
    return ((going_round(people, i, j), going_round(houses, i, j)),
            (going_round(people, (j + 1) % many, i),
             going_round(houses, (j + 1) % many, (i + many - 1) % many) + (houses[j],)))


def is_cutting_by_hand(table, loop, value):
    if value == WHOLE:
        return not chords_by_hand(table, loop)
    if not isinstance(value, tuple) or len(value) != 4 or value[0] != "cut":
        return False
    chord = value[1]
    if not isinstance(chord, tuple) or len(chord) != 2 or [type(one) for one in chord] != [int, int]:
        return False
    if chord not in chords_by_hand(table, loop):
        return False
    return all(is_cutting_by_hand(table, part, one) for part, one in zip(cut_by_hand(loop, chord), value[2:]))


def some_cutting(dice, table, loop):
    """A cutting by chords that are drawn."""
    found = chords_by_hand(table, loop)
    if not found:
        return WHOLE
    chord = dice.choice(found)
    first, second = cut_by_hand(loop, chord)
    return ("cut", chord, some_cutting(dice, table, first), some_cutting(dice, table, second))


def changed(dice, value):
    if isinstance(value, tuple) and value and dice.random() < 0.7:
        at = dice.randrange(len(value))
        return value[:at] + (changed(dice, value[at]),) + value[at + 1:]
    return dice.choice((WHOLE, "cut", (0, 1), (0, 2), 0, 1, 2, True, False, None, (), [0, 1], ("cut", (0, 1), WHOLE, WHOLE)))


class NeedTest(unittest.TestCase):

    def check(self, table, value, kept):
        self.assertEqual(raised(o.need_loop, table=table, value=value), (InvalidRing, kept))
        self.assertIs(o.is_loop(table=table, value=value), False)

    def test_loops(self):
        two = table_of("ab", "xy", itertools.product("ab", "xy"))
        for table, value in ((TRIPLE, LOOP), (MORE, LOOP), (two, (("a", "b"), ("y", "x"))), full(10)):
            self.assertEqual(raised(o.need_loop, table, value), (None, None))
            self.assertIs(check_call(self, o.is_loop, table=table, value=value), True)

    def test_no_pair_of_tuples(self):
        for value in (None, LOOP[0], list(LOOP), LOOP + ((),), (list(LOOP[0]), LOOP[1]), (LOOP[0], "xyz"),
                      (("a", "b"), ("x", "y", "z")), (("a",), ("x",)), ((), ())):
            self.check(TRIPLE, value, -1)

    def test_people_then_houses_then_places(self):
        for wrong in ("d", "x", 1, None, ["a"], ("a",), "b"):
            self.check(TRIPLE, (("a", "b", wrong), ("x", "x", "x")), (0, 2))
        self.check(TRIPLE, (("d", "b", "b"), LOOP[1]), (0, 0))
        for wrong in ("w", "a", 1, None, ["x"], "y"):
            self.check(TRIPLE, (LOOP[0], ("y", wrong, wrong)), (1, 1))
        self.check(TRIPLE, (("b", "a", "c"), ("y", "z", "x")), (2, 0))
        self.check(TRIPLE, (("a", "c", "b"), ("y", "z", "x")), (2, 1))
        self.check(table_of("abc", "xyz", TRIPLE.pairs[:-1]), LOOP, (2, 2))
        self.check(TRIPLE, (("a", "b"), ("x", "y")), (2, 1))

    def test_any_value(self):
        for value in ANY:
            for table in (TRIPLE, Table((), (), ())):
                self.assertIs(raised(o.need_loop, table, value)[0], InvalidRing)
                self.assertIs(o.is_loop(table, value), False)
            self.check(TRIPLE, (("a", "b", value), LOOP[1]), (0, 2))
            self.check(TRIPLE, (LOOP[0], (value, "y", "z")), (1, 0))

    def test_all_tried(self):
        dice = random.Random(1)
        for _ in range(12):
            table = random_table(dice, 4, 4, 0.7)
            all_loops = set(loops_by_hand(table))
            for many in (2, 3, 4):
                for people in itertools.permutations(table.people, many):
                    for houses in itertools.permutations(table.houses, many):
                        self.assertIs(o.is_loop(table, (people, houses)), (people, houses) in all_loops)


class CuttingTest(unittest.TestCase):

    def check_loop(self, table, loop):
        found = check_call(self, o.chords, table=table, loop=loop)
        self.assertEqual(found, chords_by_hand(table, loop))
        self.assertEqual(found, tuple(sorted(found)))
        for chord in found:
            halves = check_call(self, o.cut, loop=loop, chord=chord)
            self.assertEqual(halves, cut_by_hand(loop, chord))
            self.assertTrue(all(o.is_loop(table, part) for part in halves))
            self.assertEqual(sum(len(part[0]) - 1 for part in halves), len(loop[0]) - 1)
        value = check_call(self, o.cutting, table=table, loop=loop)
        self.check_value(table, loop, value)

    def check_value(self, table, loop, value):
        self.assertIs(check_call(self, o.check_cutting, table=table, loop=loop, value=value), True)
        self.assertTrue(is_cutting_by_hand(table, loop, value))
        ends = check_call(self, o.cut_ends, loop=loop, value=value)
        for end in ends:
            self.assertTrue(o.is_loop(table, end))
            self.assertIs(is_ring(table, end), len(end[0]) > 2)
        self.assertEqual(sum(len(end[0]) - 1 for end in ends), len(loop[0]) - 1)
        return ends

    def test_example(self):
        self.assertEqual((o.chords(MORE, LOOP), o.cut(LOOP, (0, 1))),
                         (((0, 1),), ((("a", "b"), ("y", "z")), (("c", "a"), ("x", "z")))))
        self.assertEqual(o.cutting(MORE, LOOP), ("cut", (0, 1), WHOLE, WHOLE))
        self.assertEqual(o.cut_ends(LOOP, ("cut", (0, 1), WHOLE, WHOLE)), o.cut(LOOP, (0, 1)))

    def test_without_chords(self):
        self.assertEqual((o.chords(TRIPLE, LOOP), o.cutting(TRIPLE, LOOP), o.cut_ends(LOOP, WHOLE)), ((), WHOLE, (LOOP,)))
        two, loop = full(2)
        self.assertEqual((o.chords(two, loop), o.cutting(two, loop)), ((), WHOLE))

    def test_all_loops_of_some_tables(self):
        dice = random.Random(2)
        for _ in range(20):
            table = random_table(dice, 4, 4, dice.choice((0.5, 0.7, 0.9)))
            for loop in loops_by_hand(table)[:200]:
                self.check_loop(table, loop)

    def test_ten(self):
        dice = random.Random(3)
        table, loop = full(10)
        self.check_loop(table, loop)
        keep = {(p, loop[1][k]) for at, p in enumerate(loop[0]) for k in (at, at - 1)}
        for density in (0, 0.1, 0.3):
            part = table_of(table.people, table.houses,
                            [pair for pair in table.pairs if pair in keep or dice.random() < density])
            self.check_loop(part, loop)
            for _ in range(10):
                self.check_value(part, loop, some_cutting(dice, part, loop))

    def test_order_of_the_ends(self):
        table, loop = full(4)
        value = ("cut", (0, 1), WHOLE, ("cut", (0, 1), WHOLE, WHOLE))
        self.assertIs(o.check_cutting(table, loop, value), True)
        first, second = cut_by_hand(loop, (0, 1))
        self.assertEqual(o.cut_ends(loop, value), (first,) + cut_by_hand(second, (0, 1)))
        value = ("cut", (0, 2), ("cut", (0, 1), WHOLE, WHOLE), WHOLE)
        first, second = cut_by_hand(loop, (0, 2))
        self.assertEqual(o.cut_ends(loop, value), cut_by_hand(first, (0, 1)) + (second,))

    def test_ringless_tables_have_ends_of_two(self):
        for table in ringless_tables(4, 40, most=4):
            self.assertEqual(rings_by_hand(table), [])
            for loop in loops_by_hand(table)[:60]:
                self.assertEqual({len(end[0]) for end in o.cut_ends(loop, o.cutting(table, loop))}, {2})

    def test_wrong_cuttings(self):
        halves = (WHOLE, WHOLE)
        for value in (WHOLE, ("cut", (0, 2)) + halves, ("cut", (1, 0)) + halves, ("cut", [0, 1]) + halves,
                      ("cut", (False, True)) + halves, ("cut", (0, True)) + halves, ("cut", (0, 1), WHOLE),
                      ("cut", (0, 1), WHOLE, ["whole"]), ["cut", (0, 1), WHOLE, WHOLE], ("whole", WHOLE), "whole",
                      ("cut", (0, 1), WHOLE, WHOLE, WHOLE), ("cut", (0, 1), WHOLE, ("cut", (0, 1), WHOLE, WHOLE)),
                      ("CUT", (0, 1)) + halves, ("cut", (0, 1, 2)) + halves, ("cut", None) + halves, ("whole", "whole")):
            self.assertIs(o.check_cutting(MORE, LOOP, value), False, value)
        self.assertIs(o.check_cutting(TRIPLE, LOOP, ("cut", (0, 1)) + halves), False)

    def test_any_value(self):
        for value in ANY:
            self.assertIs(o.check_cutting(MORE, LOOP, value), False)
            self.assertIs(o.check_cutting(TRIPLE, LOOP, value), False)
            self.assertIs(o.check_cutting(MORE, LOOP, ("cut", value, WHOLE, WHOLE)), False)
            self.assertIs(o.check_cutting(MORE, LOOP, ("cut", (0, 1), value, WHOLE)), False)
            self.assertIs(o.check_cutting(MORE, LOOP, (value, (0, 1), WHOLE, WHOLE)), False)

    def test_changed_cuttings(self):
        dice = random.Random(5)
        for _ in range(200):
            table = random_table(dice, 4, 4, 0.8)
            for loop in loops_by_hand(table)[:2]:
                value = changed(dice, some_cutting(dice, table, loop))
                self.assertIs(o.check_cutting(table=table, loop=loop, value=value),
                              is_cutting_by_hand(table, loop, value))


if __name__ == "__main__":
    unittest.main()
