"""[58], [59] Houses apart, covers, and what is packed."""

import itertools
import random
import unittest

from servedall import packing as p
from servedall.apart import ring_table
from servedall.errors import InvalidPrices, Refused
from servedall.openings import least_price
from servedall.packing import Packed
from servedall.prices import right_payments
from servedall.settling import least_shares
from servedall.tables import Table, is_table, serves, table_of, turned
from servedall.ties import is_even
from support import (ANY, check_call, even_tables, pair_of, price_by_hand, raised, random_fractions, random_prices,
                     random_table, ringless_tables, rings_by_hand, some_tables, subsets, tables_of_size, value_of)

RING = table_of("abc", "xyz", [("a", "x"), ("a", "y"), ("b", "y"), ("b", "z"), ("c", "x"), ("c", "z")])
PATH = table_of("abc", "xyz", [("a", "x"), ("a", "y"), ("b", "y"), ("b", "z"), ("c", "z")])
IDLE = table_of("ab", "wxyz", [("a", "x"), ("b", "x"), ("b", "z")])
EMPTY = Table((), (), ())
PACKED = Packed(("x", "z"), ((2, 1), (1, 1), (1, 1)))


def people_of(table, house):
    return {name for name, other in table.pairs if other == house}


def is_apart_by_hand(table, lot):
    return all(not people_of(table, one) & people_of(table, other) for one, other in itertools.combinations(lot, 2))


def apart_by_hand(table):
    return [lot for lot in subsets(table.houses) if is_apart_by_hand(table, lot)]


def greatest_by_hand(table, worths):
    return max(price_by_hand(table, worths, lot) for lot in apart_by_hand(table))


def has_by_hand(table, cover, house):
    """What the people of a house have together."""
    return sum(value_of(one) for name, one in zip(table.people, cover) if (name, house) in table.pairs)


def is_cover_by_hand(table, worths, cover):
    return all(has_by_hand(table, cover, house) >= worth for house, worth in zip(table.houses, worths))


def useful_worths(dice, table):
    """Worths of 0 for houses that serve nobody."""
    return tuple(worth if people_of(table, house) else 0
                 for house, worth in zip(table.houses, random_prices(dice, table)))


class ClassTest(unittest.TestCase):

    def test_equal(self):
        self.assertEqual(Packed(("x",), ((1, 1),)), Packed(lot=("x",), cover=((1, 1),)))
        for other in (Packed(("y",), ((1, 1),)), Packed(("x",), ()), Packed(((1, 1),), ("x",)), (("x",), ((1, 1),)), None):
            self.assertNotEqual(Packed(("x",), ((1, 1),)), other)

    def test_any_values_are_kept(self):
        for value in ANY:
            made = Packed(value, [value])
            self.assertEqual((made.lot, made.cover), (value, [value]))
            self.assertIs(type(made.lot), type(value))
        names = ["x"]
        made = Packed(names, names)
        names.append("y")
        self.assertEqual((made.lot, made.cover), (["x"], ["x"]))


class ApartTest(unittest.TestCase):

    def test_examples(self):
        self.assertEqual((p.apart_lots(PATH), p.greatest_worth(PATH, (2, 3, 2)), p.greatest_worth(RING, (1, 1, 1))),
                         (((), ("x",), ("x", "z"), ("y",), ("z",)), 4, 1))
        self.assertIs(p.check_packed(PATH, (2, 3, 2), PACKED), True)
        self.assertEqual(p.slack_table(PATH, (2, 3, 2))[1], (6, 13, 14, 8, 8, 8))

    def test_all_small_tables(self):
        dice = random.Random(1)
        for table in itertools.chain(tables_of_size(2, 3), some_tables(2, 100), [EMPTY, RING, IDLE, ring_table(8)]):
            lots = apart_by_hand(table)
            self.assertEqual(check_call(self, p.apart_lots, table=table), tuple(sorted(lots)))
            for lot in subsets(table.houses):
                self.assertIs(check_call(self, p.is_apart, table=table, value=lot), lot in lots)
            for worths in (random_prices(dice, table), (1,) * len(table.houses), (0,) * len(table.houses)):
                self.assertEqual(check_call(self, p.greatest_worth, table=table, worths=worths),
                                 greatest_by_hand(table, worths))

    def test_twelve(self):
        dice = random.Random(3)
        for density in (0.05, 0.3):
            table = random_table(dice, 10, 12, density)
            self.assertEqual(p.apart_lots(table), tuple(sorted(apart_by_hand(table))))
        self.assertEqual(len(p.apart_lots(Table(("a",), tuple("abcdefghijkl"), ()))), 4096)

    def test_wrong_lots(self):
        for value in (["x"], ("z", "x"), ("x", "x"), ("q",), ("x", "y"), ("a",), "x", None, (True,), (None, "x")):
            self.assertIs(p.is_apart(PATH, value), False, value)
        for value in ANY:
            self.assertIs(p.is_apart(PATH, value), isinstance(value, tuple) and value == ())
            self.assertIs(p.is_apart(PATH, ("x", value)), False)


class CoverTest(unittest.TestCase):

    def test_all_small_tables(self):
        dice = random.Random(4)
        seen = set()
        for table in itertools.chain(tables_of_size(2, 2), some_tables(5, 100), [EMPTY, IDLE]):
            worths = tuple(dice.randint(0, 4) for _ in table.houses)
            for _ in range(5):
                cover = random_fractions(dice, len(table.people))
                wanted = is_cover_by_hand(table, worths, cover)
                self.assertIs(check_call(self, p.is_cover, table=table, worths=worths, value=cover), wanted)
                seen.add(wanted)
                if wanted:
                    self.check_gaps(table, worths, cover)
        self.assertEqual(seen, {True, False})

    def check_gaps(self, table, worths, cover):
        for lot in apart_by_hand(table):
            rows = check_call(self, p.gap_rows, table=table, worths=worths, lot=lot, cover=cover)
            served = {name for house in lot for name in people_of(table, house)}
            worth = dict(zip(table.houses, worths))
            self.assertEqual(rows, (tuple(pair_of(has_by_hand(table, cover, house) - worth[house]) for house in lot),
                                    tuple((0, 1) if name in served else one for name, one in zip(table.people, cover))))
            parts = sum(value_of(one) for row in rows for one in row)
            self.assertEqual(sum(map(value_of, cover)), price_by_hand(table, worths, lot) + parts)
            self.assertTrue(all(top >= 0 for row in rows for top, _ in row))

    def test_wrong_covers(self):
        self.assertIs(p.is_cover(PATH, (2, 3, 2), ((2, 1), (1, 1), (1, 1))), True)
        for value in ([(2, 1), (1, 1), (1, 1)], ((2, 1), (1, 1)), ((2, 1),) * 4, ((2, 1), (1, 1), (1, 2)), (2, 1, 1),
                      ((3, 1), (-1, 1), (3, 1)), ((4, 2), (1, 1), (1, 1)), ((2, 1), (True, 1), (1, 1)), None):
            self.assertIs(p.is_cover(PATH, (2, 3, 2), value), False, value)
        # Nothing covers a house that serves nobody, if it has a worth.
        self.assertIs(p.is_cover(IDLE, (0, 1, 0, 1), ((1, 1), (1, 1))), True)
        self.assertIs(p.is_cover(IDLE, (1, 1, 0, 1), ((9, 1), (9, 1))), False)
        for value in ANY:
            self.assertIs(p.is_cover(PATH, (2, 3, 2), value), False)
            self.assertIs(p.is_cover(PATH, (2, 3, 2), ((2, 1), (1, 1), value)), False)
            self.assertIs(p.is_cover(EMPTY, (), value), isinstance(value, tuple) and value == ())


class SlackTest(unittest.TestCase):

    def test_all_kinds(self):
        dice = random.Random(6)
        letters = "abcdefghijklmnopqrstuvwxyz"
        for table in itertools.chain(tables_of_size(2, 2), some_tables(7, 100), even_tables(8, 20), [EMPTY, RING, IDLE]):
            worths = useful_worths(dice, table)
            wide, prices = check_call(self, p.slack_table, table=table, worths=worths)
            self.assertTrue(is_table(wide))
            self.assertEqual(wide.people, table.people)
            self.assertEqual(wide.houses, tuple("a" + letter for letter in letters[:len(table.houses) + len(table.people)]))
            old = wide.houses[:len(table.houses)]
            for house, name in zip(table.houses, old):
                self.assertEqual(serves(wide, name), serves(table, house))
            for name, house in zip(table.people, wide.houses[len(old):]):
                self.assertEqual(serves(wide, house), (name,))
            own = sum(worths) + 1
            self.assertEqual(prices, tuple(own * len(serves(table, house)) - worth
                                           for house, worth in zip(table.houses, worths)) + (own,) * len(table.people))
            self.assertEqual(least_price(wide, prices), own * len(table.people) - greatest_by_hand(table, worths))
            self.check_payments(table, worths, wide, prices)

    def check_payments(self, table, worths, wide, prices):
        """Right payments of the wide table are what covers leave of the price of a new house."""
        pays = least_shares(wide, prices)[1]
        own = sum(worths) + 1
        cover = tuple(pair_of(own - value_of(one)) for one in pays)
        self.assertTrue(right_payments(wide, prices, pays))
        self.assertTrue(p.is_cover(table, worths, cover))
        self.assertGreaterEqual(sum(map(value_of, cover)), greatest_by_hand(table, worths))

    def test_more_than_26(self):
        table = table_of("abcdefghij", "abcdefghijklmnopq", [("a", "a")])
        wide = p.slack_table(table, (1,) + (0,) * 16)[0]
        self.assertEqual(wide.houses[25:], ("az", "ba"))
        self.assertEqual(serves(wide, "ba"), ("j",))

    def test_idle(self):
        self.assertEqual(raised(p.slack_table, table=IDLE, worths=(1, 2, 0, 3)), (Refused, "idle"))
        self.assertEqual(raised(p.slack_table, IDLE, (0, 2, 1, 3)), (Refused, "idle"))
        self.assertEqual(p.slack_table(IDLE, (0, 2, 0, 3))[1], (0, 10, 0, 3, 6, 6))
        self.assertEqual(p.slack_table(Table((), ("x",), ()), (0,)), (Table((), ("aa",), ()), (0,)))


class PackedTest(unittest.TestCase):

    def check_case(self, table, worths):
        call = {"table": table, "worths": worths}
        made = check_call(self, p.packed, **call)
        self.assertIsInstance(made, Packed)
        self.assertIn(made.lot, apart_by_hand(table))
        self.assertTrue(all(bottom == 1 and top >= 0 for top, bottom in made.cover))
        self.assertTrue(is_cover_by_hand(table, worths, made.cover))
        self.assertEqual((price_by_hand(table, worths, made.lot), sum(top for top, _ in made.cover)),
                         (greatest_by_hand(table, worths),) * 2)
        self.assertIs(check_call(self, p.check_packed, **call, value=made), True)

    def test_even_tables(self):
        dice = random.Random(9)
        for table in itertools.chain(even_tables(10, 50), ringless_tables(11, 50), some_tables(12, 100),
                                     tables_of_size(3, 2), [EMPTY, Table((), ("x",), ()), Table(("a",), (), ())]):
            for worths in (useful_worths(dice, table), tuple(min(1, len(people_of(table, h))) for h in table.houses)):
                if is_even(table):
                    self.check_case(table, worths)
                else:
                    self.assertEqual(raised(p.packed, table=table, worths=worths), (Refused, "odd"))

    def test_twelve(self):
        dice = random.Random(13)
        for table in itertools.chain(even_tables(14, 20, most=10), ringless_tables(15, 20, most=10)):
            worths = tuple(dice.randint(0, 10 ** 6 - 1) if people_of(table, house) else 0 for house in table.houses)
            self.check_case(table, worths)
        table = turned(ring_table(10))
        self.check_case(table, tuple(dice.randint(0, 10 ** 6 - 1) for _ in range(10)))
        wide = table_of("abcdefghij", "abcdefghijkl", [(a, b) for a, b in zip("abcdefghij", "abcdefghij")] + [("a", "b"), ("j", "l")])
        self.check_case(wide, tuple(dice.randint(0, 10 ** 6 - 1) if h != "k" else 0 for h in wide.houses))

    def test_odd_rings_left_alone(self):
        for many in (3, 5, 7):
            table = ring_table(many)
            ones = (1,) * many
            self.assertEqual(p.greatest_worth(table, ones), (many - 1) // 2)
            self.assertIs(p.is_cover(table, ones, ((1, 2),) * many), True)
            # A cover of a ring, doubled, is above all its houses: so none has a lesser sum than k / 2.
            wide, prices = p.slack_table(table, ones)
            pays = least_shares(wide, prices)[1]
            self.assertEqual(sum(many + 1 - value_of(one) for one in pays) * 2, many)

    def test_all_of_small_tables(self):
        dice = random.Random(16)
        for table in itertools.chain([RING, PATH], some_tables(17, 40, most=3)):
            worths = useful_worths(dice, table)
            covers = [random_fractions(dice, len(table.people)) for _ in range(6)]
            if is_even(table):
                covers.append(p.packed(table, worths).cover)
            for lot, cover in itertools.product(subsets(table.houses), covers):
                wanted = (is_apart_by_hand(table, lot) and is_cover_by_hand(table, worths, cover)
                          and sum(map(value_of, cover)) == price_by_hand(table, worths, lot))
                self.assertIs(p.check_packed(table=table, worths=worths, value=Packed(lot, cover)), wanted)

    def test_wrong_ones(self):
        cover = PACKED.cover
        for value in (Packed(["x", "z"], cover), Packed(("z", "x"), cover), Packed(("x", "z"), list(cover)),
                      Packed(("y",), cover), Packed(("x", "y"), cover), Packed(("x", "z"), cover[:2]),
                      Packed(("x", "z"), ((2, 1), (2, 1), (0, 1), (0, 1))), Packed(("x", "z"), ((2, 1), (2, 1), (1, 1))),
                      Packed(("x", "z"), ((1, 1), (1, 1), (2, 1))), Packed(("x", "z"), (2, 1, 1)), (("x", "z"), cover), None):
            self.assertIs(p.check_packed(PATH, (2, 3, 2), value), False)
        for value in ANY:
            for one in (value, Packed(value, cover), Packed(("x", "z"), value), Packed(("x", value), cover),
                        Packed(("x", "z"), cover[:2] + (value,))):
                self.assertIs(p.check_packed(PATH, (2, 3, 2), one), False)


class ErrorTest(unittest.TestCase):

    def check(self, table, worths, wanted, more=True):
        cover = ((0, 1),) * len(table.people)
        for call in (p.slack_table, p.packed):
            self.assertEqual(raised(call, table=table, worths=worths), wanted)
        if more:
            self.assertEqual(raised(p.greatest_worth, table=table, worths=worths), wanted)
            self.assertEqual(raised(p.gap_rows, table=table, worths=worths, lot=(), cover=cover), wanted)
            for call in (p.is_cover, p.check_packed):
                self.assertEqual(raised(call, table=table, worths=worths, value=None), wanted)

    def test_worths_then_idle_then_odd(self):
        for worths in (None, (1, 1), [1, 1, 1], (1, 1, 1, 1, 1), "abc"):
            self.check(RING, worths, (InvalidPrices, -1))
            self.check(IDLE, worths, (InvalidPrices, -1))
        for wrong in (-1, True, None, "1", (1, 1)):
            self.check(RING, (1, wrong, wrong), (InvalidPrices, 1))
            self.check(IDLE, (1, 1, wrong, 0), (InvalidPrices, 2))
        both = table_of("abc", "wxyz", RING.pairs)
        self.check(both, (1, 0, 0, 0), (Refused, "idle"), more=False)
        self.assertEqual(raised(p.packed, both, (0, 1, 1, 1)), (Refused, "odd"))
        self.assertEqual(raised(p.packed, RING, (0, 0, 0)), (Refused, "odd"))
        self.assertTrue(rings_by_hand(both))

    def test_any_value(self):
        for value in ANY:
            self.check(RING, value, (InvalidPrices, 0 if isinstance(value, tuple) and len(value) == 3 else -1))
            if type(value) is not int or value < 0:
                self.check(RING, (1, 1, value), (InvalidPrices, 2))


if __name__ == "__main__":
    unittest.main()
