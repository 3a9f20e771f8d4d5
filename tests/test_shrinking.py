"""[67] Steps that make a table smaller."""

import itertools
import random
import unittest

from servedall import shrinking as s
from servedall.apart import ring_table
from servedall.errors import Refused
from servedall.openings import least_price, price_of
from servedall.tables import Table, is_table, left, table_of
from support import check_call, raised, random_prices, random_table, ringless_tables, some_tables, tables_of_size

LANE = table_of(("ann", "bob"), ("x", "y"), (("ann", "x"), ("ann", "y"), ("bob", "y")))
EMPTY = Table((), (), ())


def shrinks_by_hand(table, prices):
    """All steps that can be made, straight from the words."""
    by = {p: {h for h in table.houses if (p, h) in table.pairs} for p in table.people}
    lots = {h: {p for p in table.people if (p, h) in table.pairs} for h in table.houses}
    price = dict(zip(table.houses, prices))
    steps = [("forced", p, h) for p in by for h in lots if by[p] == {h}]
    steps += [("person", one, other) for one, other in itertools.permutations(by, 2) if by[one] >= by[other]]
    steps += [("house", one, other) for one, other in itertools.permutations(lots, 2)
              if lots[other] >= lots[one] and price[other] <= price[one]]
    steps += [("idle", h) for h in lots if not lots[h]]
    return tuple(sorted(steps))


def made_by_hand(table, prices, step):
    """The houses opened, the table and the prices behind one step."""
    gone, people = {"forced": step[2:], "person": ()}.get(step[0], step[1:2]), step[1:2] * (step[0] == "person")
    opened = step[2:] if step[0] == "forced" else ()
    people += tuple(p for p, h in table.pairs if h in opened)
    houses = [h for h in table.houses if h not in gone]
    return (opened, left(table, [p for p in table.people if p not in people], houses),
            tuple(price for h, price in zip(table.houses, prices) if h in houses))


class ShrinkingTest(unittest.TestCase):

    def check_steps(self, table, prices, steps):
        """The steps, one by one; what is left costs as much as all less what was opened."""
        opened, rest, rest_prices = (), table, prices
        for step in steps:
            self.assertIn(step, s.shrinks(rest, rest_prices))
            more, rest, rest_prices = made_by_hand(rest, rest_prices, step)
            opened += more
        found = check_call(self, s.shrunk, table=table, prices=prices, steps=tuple(steps))
        self.assertEqual(found, (tuple(sorted(opened)), rest, rest_prices))
        self.assertEqual(s.shrunk(table, prices, list(steps)), found)
        self.assertTrue(is_table(rest))
        least = least_price(table, prices)
        other = least_price(rest, rest_prices)
        self.assertEqual(least, None if other is None else other + price_of(table, prices, opened))

    def check_table(self, dice, table, prices):
        self.assertEqual(check_call(self, s.shrinks, table=table, prices=prices), shrinks_by_hand(table, prices))
        rest, rest_prices, steps = table, prices, []
        while shrinks_by_hand(rest, rest_prices):
            steps.append(shrinks_by_hand(rest, rest_prices)[0])
            _, rest, rest_prices = made_by_hand(rest, rest_prices, steps[-1])
        self.assertEqual(check_call(self, s.shrink_all, table=table, prices=prices), tuple(steps))
        self.check_steps(table, prices, steps)
        rest, rest_prices, steps = table, prices, []
        while s.shrinks(rest, rest_prices) and dice.random() < 0.9:
            steps.append(dice.choice(s.shrinks(rest, rest_prices)))
            _, rest, rest_prices = made_by_hand(rest, rest_prices, steps[-1])
        self.check_steps(table, prices, steps)

    def test_example(self):
        self.assertEqual((s.shrinks(LANE, (2, 2)), s.shrink_all(LANE, (2, 2))),
                         ((("forced", "bob", "y"), ("house", "x", "y"), ("person", "ann", "bob")),
                          (("forced", "bob", "y"), ("idle", "x"))))
        self.assertEqual(s.shrunk(LANE, (2, 2), (("house", "x", "y"),))[1].houses, ("y",))

    def test_all_small_tables(self):
        dice = random.Random(1)
        for many, houses in ((0, 0), (0, 2), (2, 0), (1, 3), (3, 1), (2, 2), (3, 2), (2, 3)):
            for table in tables_of_size(many, houses):
                for prices in ((0, 0, 0), (1, 2, 1), (2, 1, 0)):
                    self.check_table(dice, table, prices[:houses])

    def test_all_kinds(self):
        dice = random.Random(2)
        for table in itertools.chain(some_tables(3, 80), ringless_tables(4, 20), [ring_table(5)]):
            self.check_table(dice, table, random_prices(dice, table))

    def test_ten(self):
        dice = random.Random(5)
        for density in (0.15, 0.3, 0.5):
            table = random_table(dice, 10, 10, density)
            self.check_table(dice, table, tuple(dice.randint(0, 10 ** 6) for _ in range(10)))

    def test_prices(self):
        alike = table_of("a", "xy", [("a", "x"), ("a", "y")])
        self.assertEqual(s.shrinks(alike, (1, 1)), (("house", "x", "y"), ("house", "y", "x")))
        self.assertEqual(s.shrinks(alike, (1, 2)), (("house", "y", "x"),))
        self.assertEqual(s.shrinks(alike, (0, 0)), (("house", "x", "y"), ("house", "y", "x")))

    def test_people_without_a_house(self):
        table = Table(("a", "b", "c"), ("x",), (("c", "x"),))
        self.assertEqual(s.shrinks(table, (4,)), (("forced", "c", "x"), ("person", "a", "b"), ("person", "b", "a"),
                                                  ("person", "c", "a"), ("person", "c", "b")))
        self.assertEqual(s.shrunk(table, (4,), (("person", "c", "a"), ("idle", "x"))), ((), Table(("a", "b"), (), ()), ()))
        self.assertEqual(s.shrink_all(table, (4,)), (("forced", "c", "x"), ("person", "a", "b")))

    def test_refused(self):
        for steps in ((("idle", "x"),), (("house", "y", "x"),), (("person", "bob", "ann"),), (("forced", "ann", "x"),),
                      (("forced", "bob", "y"), ("forced", "bob", "y")), (("idle", "z"),), ((),), (("forced", "bob"),),
                      (("forced", ["bob"], "y"),), ((1, 2, 3),), (("person", "ann", "ann"),), (("house", "x", "x"),),
                      (("house", "x", "y"), ("idle", "x")), (("FORCED", "bob", "y"),), (("forced", "bob", "y", "y"),)):
            self.assertEqual(raised(s.shrunk, table=LANE, prices=(2, 2), steps=steps), (Refused, "step"), steps)
            self.assertEqual(raised(s.shrunk, LANE, (2, 2), list(steps)), (Refused, "step"))
        self.assertEqual(raised(s.shrunk, LANE, (2, 3), (("house", "x", "y"),)), (Refused, "step"))

    def test_nothing_to_do(self):
        self.assertEqual((s.shrinks(EMPTY, ()), s.shrink_all(EMPTY, ()), s.shrunk(EMPTY, (), ())), ((), (), ((), EMPTY, ())))
        self.assertEqual(s.shrunk(LANE, (2, 2), []), ((), LANE, (2, 2)))
        self.assertEqual(s.shrink_all(ring_table(3), (1, 1, 1)), ())


if __name__ == "__main__":
    unittest.main()
