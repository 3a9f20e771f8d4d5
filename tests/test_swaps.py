"""[63] Swaps of houses apart."""

import itertools
import unittest

from servedall import swaps as s
from servedall.apart import ring_table
from servedall.errors import Refused
from servedall.tables import Table, table_of
from support import ANY, check_call, raised, rings_by_hand, subsets
from test_pairs import STAR, ends, meet_by_hand, two_by_two

RING = table_of("abc", "xyz", [("a", "x"), ("a", "y"), ("b", "y"), ("b", "z"), ("c", "x"), ("c", "z")])
ROW = table_of("abcd", "xyz", [("a", "x"), ("b", "x"), ("b", "y"), ("c", "y"), ("c", "z"), ("d", "z")])
EMPTY = Table((), (), ())
SWAP = (("a", "b", "c", "d"), ("x", "y", "z"))


def apart_by_hand(table):
    own = ends(table)
    return [lot for lot in subsets(table.houses) if all(not own[one] & own[two] for one, two in itertools.combinations(lot, 2))]


def swaps_by_hand(table, lot):
    """All swaps of a lot."""
    own = ends(table)
    served = set().union(*[own[house] for house in lot])
    found = []
    for many in range(2, len(table.people) + 1, 2):
        for people in itertools.permutations(table.people, many):
            if people[0] in served or people[-1] in served:
                continue
            ways = [[house for house in table.houses if own[house] == {people[at], people[at + 1]} and (house in lot) == (at % 2 == 1)]
                    for at in range(many - 1)]
            found += [(people, houses) for houses in itertools.product(*ways) if len(set(houses)) == many - 1]
    return found


class SwapTest(unittest.TestCase):

    def check_table(self, table):
        lots = apart_by_hand(table)
        most = max(map(len, lots))
        held = 0
        for lot in lots:
            swaps = swaps_by_hand(table, lot)
            found = check_call(self, s.find_swap, table=table, lot=lot)
            self.assertIs(found is None, swaps == [])
            self.assertIs(found is None, len(lot) == most)
            if found is not None:
                self.assertIn(found, swaps)
                held += 1
            for swap in swaps:
                self.assertIs(check_call(self, s.check_swap, table=table, lot=lot, value=swap), True)
                more = check_call(self, s.swapped, lot=lot, swap=swap)
                self.assertEqual(more, tuple(sorted(set(lot) ^ set(swap[1]))))
                self.assertIn(more, lots)
                self.assertEqual(len(more), len(lot) + 1)
        best = check_call(self, s.most_apart, table=table)
        self.assertTrue(best in lots and len(best) == most)
        return held

    def test_examples(self):
        self.assertIn(s.find_swap(ROW, ("y",)), (SWAP, (("d", "c", "b", "a"), ("z", "y", "x"))))
        self.assertEqual((s.swapped(("y",), SWAP), s.find_swap(RING, ("x",))), (("x", "z"), None))
        self.assertEqual(s.meeting_people(ROW, ("x", "z")) in meet_by_hand(ROW), True)

    def test_all_kinds(self):
        held = 0
        for table in itertools.chain(two_by_two(1, 60, houses=6), two_by_two(2, 40, houses=6, sides=True), [RING, ROW, EMPTY, ring_table(5)]):
            held += self.check_table(table)
        self.assertGreater(held, 100)

    def test_long_swaps(self):
        # A row of eight people, whose only swap of the middle houses goes through all of them; beside it a ring of five.
        row = table_of("abcdefgh", "opqrstu", [(name, house) for at, house in enumerate("opqrstu") for name in "abcdefgh"[at:at + 2]])
        lot = ("p", "r", "t")
        self.assertIn(s.find_swap(row, lot), ((tuple("abcdefgh"), tuple("opqrstu")), (tuple("hgfedcba"), tuple("utsrqpo"))))
        self.assertEqual(s.most_apart(row), ("o", "q", "s", "u"))
        both = table_of("abcdefg", "tuvwxyz", [("a", "t"), ("b", "t"), ("b", "u"), ("c", "u"), ("c", "v"), ("d", "v"), ("d", "w"), ("e", "w"),
                                               ("e", "x"), ("a", "x"), ("a", "y"), ("f", "y"), ("c", "z"), ("g", "z")])
        self.assertTrue(rings_by_hand(both))
        self.check_table(both)

    def test_limits(self):
        for table in itertools.chain(two_by_two(3, 8, people=10, houses=12), [ring_table(9), ring_table(10)]):
            best = s.most_apart(table)
            self.assertIn(best, apart_by_hand(table))
            self.assertEqual(len(best), max(map(len, apart_by_hand(table))))
            self.assertIsNone(s.find_swap(table, best))

    def test_nothing(self):
        self.assertEqual((s.most_apart(EMPTY), s.find_swap(EMPTY, ()), s.meeting_people(EMPTY, ())), ((), None, ()))
        self.assertEqual((s.most_apart(Table(("a", "b"), (), ())), s.find_swap(Table(("a", "b"), (), ()), ())), ((), None))
        twice = table_of("ab", "xy", [(name, house) for name in "ab" for house in "xy"])
        self.check_table(twice)

    def test_wrong_swaps(self):
        self.assertIs(s.check_swap(ROW, ("y",), SWAP), True)
        for value in (list(SWAP), (list(SWAP[0]), SWAP[1]), (SWAP[0], list(SWAP[1])), SWAP[::-1], (SWAP[0][:3], SWAP[1][:2]), (SWAP[0][:3], SWAP[1]),
                      (SWAP[0], SWAP[1][:2]), (SWAP[0][:2], SWAP[1][:1]), (SWAP[0][2:], SWAP[1][2:]), (SWAP[0][1:3], SWAP[1][1:2]),
                      (("d", "b", "c", "a"), SWAP[1]), (SWAP[0], ("z", "y", "x")), (("a", "b", "c", "c"), SWAP[1]), (SWAP[0], ("x", "y", "x")),
                      (("a", "b", "c", "q"), SWAP[1]), (SWAP[0], ("x", "y", "q")), (("a",), ()), ((), ()), (("a", "b", "c", None), SWAP[1]),
                      SWAP + ((),), None, "ab"):
            self.assertIs(s.check_swap(ROW, ("y",), value), False, value)
        # Houses of the lot stand in the wrong places, or serve an end.
        for lot in ((), ("x",), ("z",), ("x", "z")):
            self.assertIs(s.check_swap(ROW, lot, SWAP), False)
        longer = table_of("abcdef", "vwxyz", [(name, house) for at, house in enumerate("vwxyz") for name in "abcdef"[at:at + 2]])
        self.assertIs(s.check_swap(longer, ("w", "y"), (tuple("abcdef"), tuple("vwxyz"))), True)
        self.assertIs(s.check_swap(longer, ("w", "y"), (tuple("abcd"), tuple("vwx"))), False)
        self.assertIs(s.check_swap(longer, ("w",), (tuple("abcd"), tuple("vwx"))), True)
        for value in ANY:
            for one in (value, (value, SWAP[1]), (SWAP[0], value), (SWAP[0][:3] + (value,), SWAP[1]), (SWAP[0], SWAP[1][:2] + (value,))):
                self.assertIs(s.check_swap(ROW, ("y",), one), False)

    def test_wrong_people_at_the_ends(self):
        table = table_of("abcdef", "xyz", ROW.pairs)
        self.assertIs(s.check_swap(table, ("y",), SWAP), True)
        for people in (("a", "b", "c", "e"), ("e", "b", "c", "d"), ("e", "b", "c", "f"), ("a", "c", "b", "d"), ("a", "b", "e", "d")):
            self.assertIs(s.check_swap(table, ("y",), (people, SWAP[1])), False)
            self.assertIs(s.check_swap(table, ("y",), (people[::-1], SWAP[1][::-1])), False)

    def test_a_ring_is_no_way(self):
        # Back to the first person over an odd number of houses: the same person twice.
        self.assertIs(s.check_swap(RING, ("z",), (("a", "b", "c", "a"), ("y", "z", "x"))), False)


class MeetingTest(unittest.TestCase):

    def test_even_tables(self):
        for table in itertools.chain(two_by_two(4, 60, sides=True), two_by_two(5, 60), [ROW, EMPTY, ring_table(6), ring_table(10)]):
            odd = any(len(ring[0]) % 2 == 1 for ring in rings_by_hand(table)) if len(table.houses) < 8 else False
            lots = apart_by_hand(table)
            most = max(map(len, lots))
            for lot in lots[::max(1, len(lots) // 20)] + [lot for lot in lots if len(lot) == most][:5]:
                error, told = raised(s.meeting_people, table=table, lot=lot)
                if odd:
                    self.assertEqual((error, told), (Refused, "ring"))
                elif len(lot) < most:
                    self.assertEqual((error, told), (Refused, "swap"))
                else:
                    self.assertEqual(check_call(self, s.meeting_people, table=table, lot=lot), told)
                    self.assertTrue(told in meet_by_hand(table) and len(told) == most)

    def test_errors(self):
        # Not two by two comes first, then an odd ring, then a swap.
        mixed = table_of("abcd", "wxyz", list(RING.pairs) + [("d", "w")])
        for table in (mixed, STAR, Table((), ("x",), ())):
            for call, arguments in ((s.check_swap, ((), None)), (s.find_swap, ((),)), (s.most_apart, ()), (s.meeting_people, ((),))):
                self.assertEqual(raised(call, table, *arguments), (Refused, "pairs"))
        self.assertEqual(raised(s.meeting_people, RING, ()), (Refused, "ring"))
        self.assertEqual(raised(s.meeting_people, RING, ("x",)), (Refused, "ring"))
        self.assertEqual(raised(s.meeting_people, ROW, ("y",)), (Refused, "swap"))
        self.assertEqual(raised(s.meeting_people, ROW, ()), (Refused, "swap"))


if __name__ == "__main__":
    unittest.main()
