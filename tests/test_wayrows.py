"""[54], [55] Rows of ways."""

import itertools
import random
import unittest

from servedall import wayrows as w
from servedall.openings import is_opening, least_price, price_of
from servedall.prices import need_payments, right_payments
from servedall.tables import Table, is_table, served_by
from servedall.ways import all_in, least_all_in, right_way_payments
from support import check_call, price_by_hand, subsets
from test_ways import openings_by_hand, random_trips

TRIPS, PRICES = ((0, 3), (3, 0)), (2, 2)
LETTERS = "abcdefghijklmnopqrstuvwxyz"


def table_by_hand(trips, prices):
    """The table of all rows and the prices of its houses, each looked up by itself."""
    numbers = [sorted(set(row)) for row in trips]
    rows = {"p" + LETTERS[i] + LETTERS[k]: (i, k) for i, row in enumerate(numbers) for k in range(len(row))}
    costs = {"h" + LETTERS[j]: price for j, price in enumerate(prices)}
    costs.update({"w" + name[1:]: numbers[i][k + 1] - numbers[i][k] for name, (i, k) in rows.items() if k + 1 < len(numbers[i])})
    pairs = []
    for name, (i, k) in sorted(rows.items()):
        for house in sorted(costs):
            own = house == "w" + name[1:]
            if own or house[0] == "h" and numbers[i][k] >= trips[i][LETTERS.index(house[1])]:
                pairs.append((name, house))
    return Table(tuple(sorted(rows)), tuple(sorted(costs)), tuple(pairs)), tuple(costs[house] for house in sorted(costs))


def random_payments(dice, table, prices):
    """Some right whole payments."""
    paid = {name: 0 for name in table.people}
    spare = dict(zip(table.houses, prices))
    for name in dice.sample(table.people, len(table.people)):
        own = served_by(table, name)
        paid[name] = dice.choice((0, 1, 1)) * min(spare[house] for house in own) // dice.choice((1, 1, 2))
        for house in own:
            spare[house] -= paid[name]
    payments = tuple((paid[name], 1) for name in table.people)
    need_payments(table, prices, payments)
    return payments


class RowsTest(unittest.TestCase):

    def check_trips(self, trips, prices):
        table, costs = check_call(self, w.way_table, trips=trips, prices=prices)
        self.assertEqual((table, costs), table_by_hand(trips, prices))
        self.assertTrue(is_table(table))
        self.assertEqual(check_call(self, w.least_ways, trips=trips), sum(map(min, trips)))
        for opening in openings_by_hand(len(prices)):
            forth = check_call(self, w.forth_opening, trips=trips, opening=opening)
            self.assertTrue(is_opening(table, forth))
            self.assertEqual(tuple(house for house in forth if house[0] == "h"), tuple("h" + LETTERS[at] for at in opening))
            self.assertEqual(price_of(table, costs, forth), all_in(trips, prices, opening) - w.least_ways(trips))
            self.assertEqual(check_call(self, w.back_opening, trips=trips, opening=forth), opening)
        return table, costs

    def test_example(self):
        self.assertEqual((w.way_table(TRIPS, PRICES)[0].houses, w.way_table(TRIPS, PRICES)[1], w.forth_opening(TRIPS, (0,)), w.least_ways(TRIPS)),
                         (("ha", "hb", "waa", "wba"), (2, 2, 3, 3), ("ha", "wba"), 0))

    def test_all_kinds(self):
        dice = random.Random(1)
        for _ in range(150):
            self.check_trips(*random_trips(dice))
        for row in itertools.product(range(3), repeat=3):
            self.check_trips((row,), (1, 0, 2))
            self.check_trips((row, row[::-1]), (0, 0, 5))

    def test_edges(self):
        # One person, one house, rows of alike numbers, prices of 0.
        self.assertEqual(w.way_table(((5,),), (0,)), (Table(("paa",), ("ha",), (("paa", "ha"),)), (0,)))
        self.assertEqual((w.forth_opening(((5,),), (0,)), w.least_ways(((5,),))), (("ha",), 5))
        alike, costs = self.check_trips(((4, 4, 4), (0, 0, 0)), (1, 2, 3))
        self.assertEqual((alike.people, alike.houses, costs), (("paa", "pba"), ("ha", "hb", "hc"), (1, 2, 3)))
        self.check_trips(((10 ** 11, 0, 10 ** 12 - 1),), (10 ** 12 - 1, 0, 0))

    def test_ten(self):
        dice = random.Random(2)
        trips = tuple(tuple(dice.randint(0, 10 ** 12 - 1) for _ in range(10)) for _ in range(10))
        table, costs = w.way_table(trips, (7,) * 10)
        self.assertEqual((table, costs), table_by_hand(trips, (7,) * 10))
        self.assertEqual((len(table.people), len(table.houses), table.people[-1], table.houses[-1]), (100, 100, "pjj", "wji"))

    def test_nothing_costs_less_with_the_same_houses(self):
        dice = random.Random(3)
        for _ in range(25):
            trips, prices = random_trips(dice, most=3)
            table, costs = w.way_table(trips, prices)
            if len(table.houses) > 9:
                continue
            best = {}
            for houses in subsets(table.houses):
                if is_opening(table, houses):
                    back = check_call(self, w.back_opening, trips=trips, opening=houses)
                    best[back] = min(best.get(back, 10 ** 99), price_by_hand(table, costs, houses))
            self.assertEqual(best, {one: price_of(table, costs, w.forth_opening(trips, one)) for one in openings_by_hand(len(prices))})
            self.assertEqual(least_price(table, costs), least_all_in(trips, prices) - w.least_ways(trips))

    def test_back_payments(self):
        dice = random.Random(4)
        for _ in range(120):
            trips, prices = random_trips(dice)
            table, costs = w.way_table(trips, prices)
            payments = random_payments(dice, table, costs)
            back = check_call(self, w.back_payments, trips=trips, payments=payments)
            paid = [sum(top for name, (top, _) in zip(table.people, payments) if name[1] == LETTERS[at]) for at in range(len(trips))]
            self.assertEqual(back, tuple(min(row) + more for row, more in zip(trips, paid)))
            self.assertTrue(right_payments(table, costs, payments) and right_way_payments(trips, prices, back))
            self.assertEqual(sum(back), sum(top for top, _ in payments) + w.least_ways(trips))
        self.assertEqual(w.back_payments(TRIPS, ((2, 1), (1, 1), (0, 1), (2, 1))), (3, 2))

    def test_back_of_any_opening(self):
        table, _ = w.way_table(TRIPS, PRICES)
        self.assertEqual([w.back_opening(TRIPS, houses) for houses in (table.houses, ("hb",), ("hb", "waa"), ("ha", "hb", "wba"))],
                         [(0, 1), (1,), (1,), (0, 1)])


if __name__ == "__main__":
    unittest.main()
