"""[84] Deeds that turn one table into another one."""

import itertools
import random
import unittest

from servedall import turning as t
from servedall.commands import is_deed
from servedall.tables import Table, table_of
from servedall.town import Town
from support import check_call, random_prices, random_table, some_tables, tables_of_size

RING = table_of("abc", "xyz", [("a", "x"), ("a", "y"), ("b", "y"), ("b", "z"), ("c", "x"), ("c", "z")])
EMPTY = Table((), (), ())


def town_of(table, prices):
    """A town with a table and its prices, come to by a round."""
    town = Town()
    town.do(("house", "qq", 3))
    for house, price in zip(table.houses, prices):
        town.do(("house", house, price + 1))
        town.do(("price", house, price))
    for name in table.people:
        town.do(("person", name, ("qq",)))
        for other, house in table.pairs:
            if other == name:
                town.do(("serve", name, house, True))
    town.do(("close", "qq"))
    assert (town.table_now(), town.prices_now()) == (table, prices)
    return town


class TurnTest(unittest.TestCase):

    def check_turn(self, table, prices, other, costs):
        deeds = check_call(self, t.turn_deeds, table=table, prices=prices, other=other, costs=costs)
        self.assertIsInstance(deeds, tuple)
        town = town_of(table, prices)
        for deed in deeds:
            self.assertIs(is_deed(deed), True)
            self.assertEqual(town.do(deed), "done", (deed, deeds))
        self.assertEqual((town.table_now(), town.prices_now()), (other, costs))
        return deeds

    def test_all_small_tables(self):
        tables = list(itertools.chain(tables_of_size(2, 1), tables_of_size(1, 2), tables_of_size(0, 2), tables_of_size(2, 0), [EMPTY]))
        for table, other in itertools.product(tables, tables):
            self.check_turn(table, (1, 2)[:len(table.houses)], other, (1, 0)[:len(other.houses)])
        for table, other in itertools.product(tables_of_size(2, 2), tables_of_size(2, 2)):
            self.check_turn(table, (1, 2), other, (1, 3))

    def test_all_kinds(self):
        dice = random.Random(1)
        for table, other in zip(some_tables(2, 150), some_tables(3, 150)):
            self.check_turn(table, random_prices(dice, table), other, random_prices(dice, other))

    def test_same(self):
        for table in itertools.chain(some_tables(4, 30), [EMPTY, RING]):
            prices = (2,) * len(table.houses)
            self.assertEqual(self.check_turn(table, prices, table, prices), ())

    def test_limits(self):
        dice = random.Random(5)
        for _ in range(20):
            table = random_table(dice, dice.randint(0, 12), dice.randint(0, 8), dice.choice((0.2, 0.8)))
            other = random_table(dice, dice.randint(0, 12), dice.randint(0, 8), dice.choice((0.2, 0.8)))
            deeds = self.check_turn(table, random_prices(dice, table), other, random_prices(dice, other))
            # A town is asked for 40 calls at most.
            self.assertLessEqual(len(deeds), 40)

    def test_small_changes(self):
        prices = (1, 1, 1)
        self.assertEqual(self.check_turn(RING, prices, RING, (1, 5, 1)), (("price", "y", 5),))
        less = table_of("ab", "xyz", [pair for pair in RING.pairs if pair[0] != "c"])
        self.assertEqual(self.check_turn(RING, prices, less, prices), (("leave", "c"),))
        self.assertEqual(self.check_turn(less, prices, RING, prices), (("person", "c", ("x", "z")),))
        closed = table_of("abc", "xy", [pair for pair in RING.pairs if pair[1] != "z"])
        self.assertEqual(self.check_turn(RING, prices, closed, (1, 1)), (("close", "z"),))


if __name__ == "__main__":
    unittest.main()
