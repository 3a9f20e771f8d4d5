"""[56], [57] Ways by one pass."""

import itertools
import random
import unittest

from servedall import waypass as w
from servedall.errors import Refused
from servedall.roads import Roads, way
from servedall.ties import any_ring
from servedall.ways import all_in, check_ways, least_all_in
from servedall.wayrows import way_table
from support import check_call, raised, random_roads, rings_by_hand
from test_ways import openings_by_hand, random_trips

LINE = Roads(("a", "b", "c"), (("a", "b", 2), ("b", "c", 3)))


def least_by_hand(trips, prices):
    return min(sum(prices[house] for house in opening) + sum(min(row[house] for house in opening) for row in trips)
               for opening in openings_by_hand(len(prices)))


class BestTest(unittest.TestCase):

    def check_best(self, trips, prices, made):
        self.assertIs(check_ways(trips, prices, made), True)
        opening, payments = made
        self.assertEqual((all_in(trips, prices, opening), sum(payments)), (least_by_hand(trips, prices),) * 2)

    def test_all_kinds(self):
        dice = random.Random(1)
        words = {True: 0, False: 0}
        for _ in range(400):
            trips, prices = random_trips(dice)
            ringless = any_ring(way_table(trips, prices)[0]) is None
            words[ringless] += 1
            if ringless:
                self.check_best(trips, prices, check_call(self, w.best_ways, trips=trips, prices=prices))
            else:
                self.assertEqual(raised(w.best_ways, trips=trips, prices=prices), (Refused, "ring"))
        self.assertGreater(min(words.values()), 15)

    def test_a_ring(self):
        # Each person is near two of three houses.
        trips = ((0, 0, 1), (1, 0, 0), (0, 1, 0))
        self.assertEqual(raised(w.best_ways, trips, (1, 1, 1)), (Refused, "ring"))
        self.assertEqual(raised(w.best_ways, trips, (0, 0, 0)), (Refused, "ring"))

    def test_edges(self):
        for trips, prices in ((((5,),), (0,)), (((5,),), (7,)), (((0, 0),), (3, 3)), (((4, 4, 4), (0, 0, 0)), (0, 0, 0)),
                              (((0, 3), (3, 0)), (2, 2)), (((10 ** 12 - 1, 0),), (0, 10 ** 12 - 1))):
            self.check_best(trips, prices, check_call(self, w.best_ways, trips=trips, prices=prices))

    def test_more_never_lowers(self):
        dice = random.Random(2)
        for _ in range(60):
            trips, prices = random_trips(dice, most=4)
            least = least_all_in(trips, prices)
            row = tuple(dice.randint(0, 4) for _ in prices)
            dearer = ((trips[0][0] + 2,) + trips[0][1:],) + trips[1:]
            self.assertGreaterEqual(least_all_in(trips + (row,), prices), least)
            self.assertGreaterEqual(least_all_in(dearer, prices), least)
            wide = tuple(row + (dice.randint(0, 4),) for row in trips)
            self.assertLessEqual(least_all_in(wide, prices + (1,)), least)
            self.assertLessEqual(least_all_in(trips, (prices[0] // 2,) + prices[1:]), least)


class RoadTest(unittest.TestCase):

    def check_roads(self, roads, people, weights, houses, prices):
        call = {"roads": roads, "people": people, "weights": weights, "houses": houses}
        trips = check_call(self, w.trips_on, **call)
        self.assertEqual(trips, tuple(tuple(weight * way(roads, one, other) for other in houses) for one, weight in zip(people, weights)))
        made = check_call(self, w.best_on, **call, prices=prices)
        self.assertIs(check_ways(trips, prices, made), True)
        self.assertEqual(sum(made[1]), least_by_hand(trips, prices))
        self.assertEqual(w.best_on(roads, list(people), list(weights), list(houses), prices), made)
        self.assertEqual(w.trips_on(roads, list(people), list(weights), list(houses)), trips)
        self.assertTrue(check_ways(trips, prices, w.best_ways(trips, prices)))

    def test_all_kinds(self):
        dice = random.Random(3)
        for _ in range(150):
            roads = random_roads(dice, dice.randint(1, 7))
            people = tuple(dice.choice(roads.places) for _ in range(dice.randint(1, 5)))
            houses = tuple(dice.choice(roads.places) for _ in range(dice.randint(1, 5)))
            self.check_roads(roads, people, tuple(dice.choice((0, 1, 1, 2, 7)) for _ in people), houses,
                             tuple(dice.choice((0, 1, 3, 10)) for _ in houses))

    def test_trees_have_no_ring(self):
        dice = random.Random(4)
        for _ in range(20):
            roads = random_roads(dice, dice.randint(1, 5))
            people = [dice.choice(roads.places) for _ in range(2)]
            houses = [dice.choice(roads.places) for _ in range(3)]
            table, _ = way_table(w.trips_on(roads, people, (1, 2), houses), (1,) * 3)
            self.assertEqual(rings_by_hand(table), [])
            people = [dice.choice(roads.places) for _ in range(4)]
            table, _ = way_table(w.trips_on(roads, people, (1, 2, 1, 0), houses + people), (1,) * 7)
            self.assertIsNone(any_ring(table))

    def test_edges(self):
        # One place; people and houses at one place, also twice; weights and prices of 0.
        self.check_roads(Roads(("a",), ()), ("a",), (1,), ("a",), (5,))
        self.check_roads(Roads(("a",), ()), ("a", "a"), (0, 3), ("a", "a"), (5, 0))
        self.check_roads(LINE, ("a", "a", "c"), (1, 1, 1), ("b", "b"), (4, 4))
        self.check_roads(LINE, ("a", "b", "c"), (0, 0, 0), ("a", "c"), (4, 3))
        self.check_roads(LINE, ("a", "b", "c"), (5, 1, 2), ("a", "b", "c"), (0, 0, 0))
        self.assertEqual(w.trips_on(LINE, ("a", "c"), (2, 3), ("c", "a", "c")), ((10, 0, 10), (0, 15, 0)))
        self.assertEqual(w.best_on(LINE, ["c"], [2], ["a"], (1,)), ((0,), (11,)))

    def test_ten(self):
        dice = random.Random(5)
        for most in (1, 5, 10 ** 6):
            roads = random_roads(dice, 14, most=most)
            people = tuple(dice.choice(roads.places) for _ in range(10))
            houses = tuple(dice.choice(roads.places) for _ in range(10))
            weights = tuple(dice.randint(0, 10 ** 4) for _ in people)
            self.check_roads(roads, people, weights, houses, tuple(dice.randint(0, 10 ** 9) for _ in houses))

    def test_equal_calls(self):
        for call in itertools.permutations(("a", "b", "c")):
            self.assertEqual(w.best_on(LINE, call, (1, 1, 1), call, (2, 2, 2)), w.best_on(LINE, call, (1, 1, 1), call, (2, 2, 2)))


if __name__ == "__main__":
    unittest.main()
