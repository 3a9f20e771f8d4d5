"""[62] Tables two by two."""

import itertools
import random
import unittest

from servedall import pairs as p
from servedall.apart import ring_table
from servedall.errors import Refused
from servedall.tables import Table, table_of, turned
from support import ANY, check_call, raised, rings_by_hand, serves_all, some_tables, subsets, tables_of_size

RING = table_of("abc", "xyz", [("a", "x"), ("a", "y"), ("b", "y"), ("b", "z"), ("c", "x"), ("c", "z")])
ROW = table_of("abcd", "xyz", [("a", "x"), ("b", "x"), ("b", "y"), ("c", "y"), ("c", "z"), ("d", "z")])
STAR = table_of("abc", "xy", [("a", "x"), ("b", "x"), ("c", "x"), ("b", "y"), ("c", "y")])
EMPTY = Table((), (), ())


def two_by_two(seed, number, people=6, houses=7, sides=False):
    """Tables in which each house serves just two people, perhaps of two sides."""
    dice = random.Random(seed)
    for _ in range(number):
        names = "abcdefghij"[:dice.randint(0, people)]
        half = dice.randint(1, max(1, len(names) - 1))
        many = 0 if len(names) < 2 else dice.randint(0, houses)
        pairs = []
        for house in "opqrstuvwxyz"[:many]:
            two = (dice.choice(names[:half]), dice.choice(names[half:])) if sides else dice.sample(names, 2)
            pairs += [(name, house) for name in two]
        yield table_of(names, "opqrstuvwxyz"[:many], pairs)


def ends(table):
    """For each house the people whom it serves."""
    return {house: {name for name, other in table.pairs if other == house} for house in table.houses}


def never_by_hand(table):
    return [some for some in subsets(table.people) if all(len(own & set(some)) < 2 for own in ends(table).values())]


def meet_by_hand(table):
    return [some for some in subsets(table.people) if all(own & set(some) for own in ends(table).values())]


class TogetherTest(unittest.TestCase):

    def test_all_small_tables(self):
        for table in itertools.chain(tables_of_size(3, 2), some_tables(1, 100), two_by_two(2, 40), [EMPTY, STAR, ring_table(5)]):
            never, meet = never_by_hand(table), meet_by_hand(table)
            for people in subsets(table.people):
                self.assertIs(check_call(self, p.never_together, table=table, value=people), people in never)
                self.assertIs(check_call(self, p.meet_all, table=table, value=people), people in meet)

    def test_wrong_people(self):
        self.assertIs(p.never_together(ROW, ("a", "d")), True)
        self.assertIs(p.meet_all(ROW, ("b", "c")), True)
        for value in (["b", "c"], ("c", "b"), ("b", "b"), ("b", "c", "c"), ("b", "q"), ("x", "y", "z"), "bc", None, (True, "b", "c"), ("b", None)):
            self.assertIs(p.never_together(ROW, value), False, value)
            self.assertIs(p.meet_all(ROW, value), False, value)
        # A house that serves nobody is met by nobody.
        idle = Table(("a",), ("x",), ())
        self.assertEqual((p.meet_all(idle, ()), p.meet_all(idle, ("a",)), p.never_together(idle, ("a",))), (False, False, True))
        for value in ANY:
            self.assertIs(p.meet_all(ROW, value), False)
            self.assertIs(p.never_together(ROW, value), isinstance(value, tuple) and value in ((), ("a",)))
            self.assertIs(p.meet_all(ROW, ("b", "c", value)), False)
            self.assertIs(p.never_together(ROW, ("a", value)), False)


class SidesTest(unittest.TestCase):

    def check_table(self, table):
        odd = [ring for ring in rings_by_hand(table) if len(ring[0]) % 2 == 1]
        sides = [some for some in subsets(table.people) if all(len(own & set(some)) == 1 for own in ends(table).values())]
        word, paper = check_call(self, p.sides_or_ring, table=table)
        self.assertIs(bool(sides), not odd)
        if word == "sides":
            self.assertIn(paper, sides)
        else:
            self.assertEqual(word, "ring")
            self.assertIn(paper, odd)
        return word

    def check_numbers(self, table):
        own = ends(table)
        apart = max(len(lot) for lot in subsets(table.houses) if all(not own[one] & own[two] for one, two in itertools.combinations(lot, 2)))
        serve = [len(lot) for lot in subsets(table.houses) if serves_all(table, lot, table.people)]
        numbers = check_call(self, p.four_numbers, table=table)
        self.assertEqual(numbers, (apart, min(map(len, meet_by_hand(table))), min(serve, default=None), max(map(len, never_by_hand(table)))))
        self.assertEqual(numbers[1] + numbers[3], len(table.people))
        self.assertTrue(numbers[2] is None or numbers[0] + numbers[2] == len(table.people))
        return numbers

    def test_examples(self):
        self.assertEqual((p.four_numbers(ROW), p.four_numbers(RING), p.meet_all(ROW, ("a", "d"))), ((2, 2, 2, 2), (1, 2, 2, 1), False))
        self.assertEqual(p.sides_or_ring(ROW)[0], "sides")

    def test_all_kinds(self):
        words = set()
        for table in itertools.chain(two_by_two(3, 120, houses=6), two_by_two(4, 60, sides=True, houses=6), [RING, ROW, ring_table(5), ring_table(6)]):
            word = self.check_table(table)
            words.add(word)
            numbers = self.check_numbers(table)
            if word == "sides":
                self.assertEqual(numbers[0], numbers[1])
                self.assertTrue(numbers[2] is None or numbers[2] == numbers[3])
        self.assertEqual(words, {"sides", "ring"})

    def test_limits(self):
        for table in itertools.chain(two_by_two(5, 10, people=10, houses=12), two_by_two(6, 10, people=10, houses=12, sides=True), [ring_table(9)]):
            self.check_numbers(table)
            word, paper = p.sides_or_ring(table)
            self.assertTrue(word == "ring" or all(len(own & set(paper)) == 1 for own in ends(table).values()))

    def test_edges(self):
        # Nobody; people without a house; two houses that serve the same two people.
        self.assertEqual((p.four_numbers(EMPTY), p.sides_or_ring(EMPTY)), ((0, 0, 0, 0), ("sides", ())))
        lone = Table(("a", "b"), (), ())
        self.assertEqual(self.check_numbers(lone), (0, 0, None, 2))
        self.assertEqual(self.check_table(lone), "sides")
        twice = table_of("ab", "xy", [(name, house) for name in "ab" for house in "xy"])
        self.assertEqual((self.check_numbers(twice), self.check_table(twice)), ((1, 1, 1, 1), "sides"))
        more = table_of("abc", "wxyz", list(RING.pairs) + [("a", "w"), ("c", "w")])
        self.assertEqual((self.check_numbers(more), self.check_table(more)), ((1, 2, 2, 1), "ring"))

    def test_not_two_by_two(self):
        for table in (STAR, Table((), ("x",), ()), Table(("a",), ("x",), (("a", "x"),)), turned(STAR),
                      table_of("abcd", "wxyz", list(RING.pairs) + [("d", "w")])):
            for call in (p.sides_or_ring, p.four_numbers):
                self.assertEqual(raised(call, table=table), (Refused, "pairs"))


if __name__ == "__main__":
    unittest.main()
