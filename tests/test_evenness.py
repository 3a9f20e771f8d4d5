"""[22] Odd lots, even papers, and lots without a paint."""

import itertools
import random
import unittest

from servedall import evenness as e
from servedall.apart import ring_table
from servedall.copies import copied
from servedall.errors import Refused
from servedall.tables import Table, left, table_of
from servedall.ties import is_even
from support import (ANY, PEOPLE, check_call, even_tables, raised, random_table, ringless_tables, rings_by_hand,
                     some_tables, subsets, tables_of_size)

RING = table_of("abc", "xyz", [("a", "x"), ("a", "y"), ("b", "y"), ("b", "z"), ("c", "x"), ("c", "z")])
MORE = table_of("abc", "xyz", RING.pairs + (("a", "z"),))
EMPTY = Table((), (), ())


def is_paint_by_hand(table, lot, paint):
    """Whether some of a lot of houses are a paint of its part left with all people."""
    for person in table.people:
        own = {house for house in lot if (person, house) in table.pairs}
        if len(own) > 1 and (own <= set(paint) or not own & set(paint)):
            return False
    return set(paint) <= set(lot)


def has_paint(table, lot):
    return any(is_paint_by_hand(table, lot, paint) for paint in subsets(lot))


def odd_lots_by_hand(table):
    return tuple(sorted(lot for lot in subsets(table.houses) if len(lot) >= 3 and len(lot) % 2 == 1))


def is_even_by_hand(table):
    return all(len(people) % 2 == 0 for people, _ in rings_by_hand(table))


class LotsTest(unittest.TestCase):

    def test_odd_lots(self):
        for many in range(11):
            table = Table((), tuple("abcdefghij"[:many]), ())
            self.assertEqual(check_call(self, e.odd_lots, table=table), odd_lots_by_hand(table))
        self.assertEqual(e.odd_lots(Table(("a",), tuple("wxyz"), ())),
                         (("w", "x", "y"), ("w", "x", "z"), ("w", "y", "z"), ("x", "y", "z")))
        # Ascending, not by their length.
        self.assertEqual(e.odd_lots(ring_table(5))[:3], (("a", "b", "c"), ("a", "b", "c", "d", "e"), ("a", "b", "d")))
        self.assertEqual(e.odd_lots(table_of("a", "xy", [("a", "x")])), ())


class PaperTest(unittest.TestCase):

    def check_table(self, table):
        paper = check_call(self, e.even_paper, table=table)
        self.assertEqual(tuple(lot for lot, _ in paper), odd_lots_by_hand(table))
        for lot, paint in paper:
            self.assertTrue(is_paint_by_hand(table, lot, paint), (table.pairs, lot, paint))
            self.assertEqual(paint, tuple(sorted(set(paint))))
        self.assertIs(check_call(self, e.check_even, table=table, value=paper), True)

    def test_examples(self):
        self.assertIs(e.check_even(MORE, ((("x", "y", "z"), ("z",)),)), True)
        self.assertEqual((e.unpainted_lots(RING), e.unpainted_lots(MORE)), ((("x", "y", "z"),), ()))

    def test_all_small_tables(self):
        for table in itertools.chain(tables_of_size(3, 3), some_tables(1, 150), some_tables(2, 40, most=6)):
            if is_even_by_hand(table):
                self.check_table(table)
            else:
                self.assertEqual(raised(e.even_paper, table=table), (Refused, "odd"))

    def test_even_exactly_if_each_part_has_a_paint(self):
        for table in some_tables(3, 60, most=4):
            parts = [left(table, people, houses) for people in subsets(table.people)
                     for houses in subsets(table.houses)]
            self.assertIs(all(has_paint(part, part.houses) for part in parts), is_even_by_hand(table))

    def test_even_and_ringless_tables(self):
        for table in itertools.chain(even_tables(4, 60, most=10), ringless_tables(5, 60, most=10)):
            self.check_table(table)
        self.check_table(ring_table(10))
        self.assertEqual(raised(e.even_paper, ring_table(9)), (Refused, "odd"))
        dice = random.Random(6)
        for _ in range(60):
            table = random_table(dice, 12, 8, dice.choice((0.1, 0.9)))
            if is_even(table):
                self.check_table(table)

    def test_edges(self):
        for table in (EMPTY, Table(("a", "b"), (), ()), Table(("a", "b"), tuple("wxyz"), ()),
                      Table((), tuple("vwxyz"), ()), table_of("a", "xyz", [("a", "x"), ("a", "y"), ("a", "z")])):
            self.check_table(table)
        self.assertEqual(e.even_paper(EMPTY), ())
        wide = copied(MORE, (2, 2, 3))[0]
        self.check_table(wide)

    def test_all_papers_of_a_table(self):
        table = table_of("abc", "wxyz", [("a", "w"), ("a", "x"), ("b", "x"), ("b", "y"), ("b", "z"), ("c", "z")])
        lots = odd_lots_by_hand(table)
        held = 0
        for paints in itertools.product(*[list(subsets(lot)) for lot in lots]):
            wanted = all(is_paint_by_hand(table, lot, paint) for lot, paint in zip(lots, paints))
            self.assertIs(e.check_even(table=table, value=tuple(zip(lots, paints))), wanted)
            held += wanted
        self.assertGreater(held, 1)

    def test_wrong_papers(self):
        table = table_of(PEOPLE[:5], "vwxyz", [(name, "vwxyz"[at]) for at, name in enumerate(PEOPLE[:5])])
        paper = e.even_paper(table)
        self.assertIs(e.check_even(table, paper), True)
        lot, paint = paper[3]
        for value in (paper[1:], paper[:-1], paper[::-1], paper + paper[-1:], list(paper), paper[:3] + ([lot, paint],) + paper[4:],
                      paper[:3] + ((lot, paint, ()),) + paper[4:], paper[:3] + ((lot,),) + paper[4:],
                      paper[:3] + ((list(lot), paint),) + paper[4:], paper[:3] + ((lot[::-1], paint),) + paper[4:],
                      paper[:3] + ((lot, list(paint)),) + paper[4:], paper[:3] + ((lot, ("z", "v")),) + paper[4:],
                      paper[:3] + ((lot, ("q",)),) + paper[4:], paper[:3] + ((lot, (True,)),) + paper[4:],
                      paper[:2] + (paper[3], paper[2]) + paper[4:], ("even", paper), None):
            self.assertIs(e.check_even(table, value), False, value)
        outside = tuple(house for house in "vwxyz" if house not in lot)
        self.assertIs(e.check_even(table, paper[:3] + ((lot, outside),) + paper[4:]), False)
        self.assertIs(e.check_even(RING, ((("x", "y", "z"), ("z",)),)), False)

    def test_any_value(self):
        for value in ANY:
            none = isinstance(value, tuple) and value == ()
            self.assertIs(e.check_even(MORE, value), False)
            self.assertIs(e.check_even(EMPTY, value), none)
            for one in ((value,), ((value, ("z",)),), ((("x", "y", "z"), value),), ((("x", "y", "z"), (value,)),),
                        ((("x", "y", "z"), ("z",)), value), ((("x", "y", "z"), ("z", value)),)):
                self.assertIs(e.check_even(MORE, one), False)


class UnpaintedTest(unittest.TestCase):

    def check_table(self, table):
        paints = {lot: has_paint(table, lot) for lot in subsets(table.houses)}
        wanted = [lot for lot in paints if not paints[lot]
                  and all(paints[less] for less in subsets(lot) if less != lot)]
        found = check_call(self, e.unpainted_lots, table=table)
        self.assertEqual(found, tuple(sorted(wanted)))
        return found

    def test_all_small_tables(self):
        sizes = set()
        for table in itertools.chain(tables_of_size(3, 3), some_tables(7, 100), some_tables(8, 60, most=6),
                                     [ring_table(5), ring_table(6)]):
            found = self.check_table(table)
            odd = {tuple(sorted(houses)) for people, houses in rings_by_hand(table) if len(people) % 2 == 1}
            self.assertLessEqual(set(found), odd)
            self.assertIs(found == (), odd == set())
            sizes |= {len(lot) for lot in found}
        self.assertEqual(sizes, {3, 5})

    def test_many_lots(self):
        # Two odd rings that have houses in common, and one of five beside another one of three.
        pairs = [(name, house) for name, houses in zip("abcdef", ("uv", "vw", "uw", "vx", "wx", "uvw")) for house in houses]
        self.assertEqual(self.check_table(table_of("abcdef", "uvwx", pairs)), (("u", "v", "w"), ("v", "w", "x")))
        both = table_of("abcdefghi", "abcdepqrx", list(ring_table(5).pairs) + [
            ("f", "p"), ("f", "q"), ("g", "q"), ("g", "r"), ("h", "p"), ("h", "r"), ("i", "x"), ("i", "a")])
        self.assertEqual(self.check_table(both), (tuple("abcde"), ("p", "q", "r")))
        self.assertEqual(e.unpainted_lots(ring_table(9)), (tuple("abcdefghi"),))
        self.assertEqual(e.unpainted_lots(ring_table(10)), ())
        self.assertEqual(e.unpainted_lots(EMPTY), ())


if __name__ == "__main__":
    unittest.main()
