"""[25] Lines."""

import random
import unittest
from fractions import Fraction

from servedall import lines as l
from servedall.errors import Refused
from servedall.fractions import ZERO
from servedall.lines import Lines
from servedall.tables import Table, table_of
from support import ANY, check_call, pair_of, raised, random_fractions, random_prices, some_tables, value_of

RING = table_of("abc", "xyz", [("a", "x"), ("a", "y"), ("b", "y"), ("b", "z"), ("c", "x"), ("c", "z")])
EMPTY = Table((), (), ())



def kept_values(dice, table, prices):
    """Values of all names that keep the first lines: some payments, and what is left of each price."""
    pays = random_fractions(dice, len(table.people))
    worth = dict(zip(table.people, map(value_of, pays)))
    rest = [price - sum(worth[p] for p, other in table.pairs if other == house)
            for house, price in zip(table.houses, prices)]
    return pays + tuple(map(pair_of, rest))


class LinesTest(unittest.TestCase):

    def test_it_keeps_any_values_as_they_are(self):
        for value in ANY:
            lines = Lines(value, [value], (value,))
            self.assertEqual((lines.basis, lines.rows, lines.last), (value, [value], (value,)))
        lines = Lines(last=1, rows=[2], basis=None)
        self.assertEqual((lines.basis, lines.rows, lines.last), (None, [2], 1))

    def test_later_changes_do_not_show(self):
        rows = [[1], ([2],)]
        lines = Lines(rows, rows, rows)
        rows[0].append(2)
        rows[1][0].append(3)
        rows.append(4)
        self.assertEqual((lines.basis, lines.rows, lines.last), ([[1], ([2],)],) * 3)

    def test_equality(self):
        self.assertTrue(Lines(1, 2, 3) == Lines(1, 2, 3))
        for other in (Lines(0, 2, 3), Lines(1, 0, 3), Lines(1, 2, 0), Table(1, 2, 3), (1, 2, 3), None):
            self.assertFalse(Lines(1, 2, 3) == other)
            self.assertTrue(Lines(1, 2, 3) != other)


class FirstTest(unittest.TestCase):

    def test_rows(self):
        table = table_of("ab", "xy", [("a", "x"), ("b", "x"), ("b", "y")])
        one, none = (1, 1), (0, 1)
        self.assertEqual(check_call(self, l.first_lines, table=table, prices=(3, 0)),
                         Lines((2, 3), ((one, one, one, none, (3, 1)), (none, one, none, one, none)),
                               (one, one, none, none, none)))

    def test_empty(self):
        self.assertEqual(l.first_lines(EMPTY, ()), Lines((), (), ((0, 1),)))
        self.assertEqual(l.values_of(l.first_lines(EMPTY, ())), ())
        self.assertEqual(l.first_lines(Table(("a",), (), ()), ()), Lines((), (), ((1, 1), (0, 1))))
        self.assertEqual(l.values_of(l.first_lines(Table(("a",), (), ()), ())), ((0, 1),))
        self.assertIs(l.hold(l.first_lines(EMPTY, ()), ()), True)
        self.assertEqual(l.gain_at(l.first_lines(EMPTY, ()), []), (0, 1))

    def test_values(self):
        dice = random.Random(1)
        for table in some_tables(2, 40):
            prices = random_prices(dice, table)
            lines = l.first_lines(table, prices)
            values = check_call(self, l.values_of, lines=lines)
            self.assertEqual(values, ((0, 1),) * len(table.people) + tuple((price, 1) for price in prices))
            self.assertIs(l.hold(lines, values), True)
            self.assertEqual(l.gain_at(lines, values), (0, 1))


class TurnTest(unittest.TestCase):

    def test_example(self):
        lines = l.turned_on(l.first_lines(RING, (1, 1, 1)), 0, 0)
        self.assertEqual((lines.basis, l.values_of(lines), lines.last[-1],
                          l.hold(lines, ((1, 1),) + ((0, 1),) * 4 + ((1, 1),))),
                         ((0, 4, 5), ((1, 1), (0, 1), (0, 1), (0, 1), (0, 1), (1, 1)), (1, 1), True))

    def test_zero(self):
        lines = l.first_lines(RING, (1, 1, 1))
        self.assertEqual(raised(l.turned_on, lines, 0, 1), (Refused, "zero"))
        self.assertEqual(raised(l.turned_on, lines=lines, at=2, name=0), (Refused, "zero"))

    def test_turned_lines_hold_for_the_same_numbers(self):
        dice = random.Random(3)
        for table in some_tables(4, 40, most=4):
            prices = random_prices(dice, table)
            lines = first = l.first_lines(table, prices)
            for _ in range(5):
                names = range(len(lines.last) - 1)
                places = [(at, name) for at, row in enumerate(lines.rows) for name in names if row[name] != ZERO]
                if not places:
                    break
                at, name = dice.choice(places)
                before, lines = lines, check_call(self, l.turned_on, lines=lines, at=at, name=name)
                self.assertEqual(lines.basis[at], name)
                self.assertEqual(lines.basis[:at] + lines.basis[at + 1:], before.basis[:at] + before.basis[at + 1:])
                self.assertEqual([row[name] for row in lines.rows],
                                 [(int(place == at), 1) for place in range(len(lines.rows))])
                self.assertEqual(lines.last[name], ZERO)
                for row, old in zip(lines.rows, before.rows):
                    self.check_row(row, old, lines.rows[at], before.rows[at] == old, name)
                values = kept_values(dice, table, prices)
                self.assertIs(check_call(self, l.hold, lines=lines, values=values), True)
                self.assertIs(l.hold(lines, list(values)), True)
                self.assertEqual(check_call(self, l.gain_at, lines=lines, values=values), l.gain_at(first, values))
                own = l.values_of(lines)
                self.assertTrue(l.hold(lines, own) and l.hold(first, own))
                self.assertEqual(l.gain_at(first, own), lines.last[-1])

    def check_row(self, row, old, turning, is_turning, name):
        if not is_turning:
            often = value_of(old[name])
            self.assertEqual(row, tuple(pair_of(value_of(one) - often * value_of(two))
                                        for one, two in zip(old, turning)))

    def test_hold_finds_what_is_wrong(self):
        lines = l.turned_on(l.first_lines(RING, (1, 2, 3)), 1, 0)
        right = l.values_of(lines)
        self.assertTrue(l.hold(lines, right))
        for at in range(len(right)):
            wrong = right[:at] + (pair_of(value_of(right[at]) + Fraction(1, 7)),) + right[at + 1:]
            self.assertIs(l.hold(lines, wrong), False)

    def test_lists_within_lines(self):
        lines = l.first_lines(RING, (1, 2, 3))
        listed = Lines(list(lines.basis), [list(row) for row in lines.rows], list(lines.last))
        self.assertEqual(l.turned_on(listed, 0, 0), l.turned_on(lines, 0, 0))
        self.assertEqual(l.values_of(listed), l.values_of(lines))


if __name__ == "__main__":
    unittest.main()
