"""[51], [52], [53] Ways."""

import itertools
import random
import unittest

from servedall import ways as w
from servedall.errors import InvalidSize
from support import ANY, check_call, raised

TRIPS, PRICES = ((0, 3), (3, 0)), (2, 2)


def all_in_by_hand(trips, prices, opening):
    return sum(prices[h] for h in opening) + sum(min(row[h] for h in opening) for row in trips)


def openings_by_hand(many):
    return [opening for size in range(1, many + 1) for opening in itertools.combinations(range(many), size)]


def random_trips(dice, most=4):
    many, most_trip = dice.randint(1, most), dice.choice((1, 3, 10 ** 11))
    trips = tuple(tuple(dice.randint(0, most_trip) for _ in range(many)) for _ in range(dice.randint(1, most)))
    return trips, tuple(dice.randint(0, most_trip) for _ in range(many))


class TripsTest(unittest.TestCase):

    def test_trips(self):
        for value in (TRIPS, ((0,),), ((5, 10 ** 12),), ((0,), (0,), (0,))):
            self.assertEqual(raised(w.need_trips, value=value), (None, None))

    def test_no_trips(self):
        for value in (None, (), ((),), ((), ()), [(1,)], ([1],), ((1, 2), (1,)), ((1,), (1, 2)), ((1, -1),), ((True,),),
                      ((1, None),), (1,), ((1,), ()), ((1,), None), "a", ("a",), (("a",),), ((1,), [1]), (((1, 2),),)):
            self.assertEqual(raised(w.need_trips, value), (InvalidSize, "trips"), value)

    def test_any_value(self):
        for value in ANY:
            right = value == ((1, 2), (1, 2)) and isinstance(value, tuple)
            self.assertEqual(raised(w.need_trips, value)[0], None if right else InvalidSize)
            right = isinstance(value, tuple) and value in ((1,), (1, 2), (2, 4), (1, 0)) and True not in map(
                lambda one: isinstance(one, bool), value)
            self.assertEqual(raised(w.need_trips, (value,))[0], None if right else InvalidSize, value)


class PriceTest(unittest.TestCase):

    def test_example(self):
        self.assertEqual((w.all_in(TRIPS, PRICES, (0,)), w.least_all_in(TRIPS, PRICES), w.nearest_open(TRIPS, (1,)),
                          w.taken_by(TRIPS, (4, 2), 1)), (5, 4, (1, 1), 3))

    def test_all_tried(self):
        dice = random.Random(1)
        for _ in range(60):
            trips, prices = random_trips(dice)
            openings = openings_by_hand(len(prices))
            for opening in openings:
                self.assertEqual(check_call(self, w.all_in, trips=trips, prices=prices, opening=opening),
                                 all_in_by_hand(trips, prices, opening))
                self.assertEqual(check_call(self, w.nearest_open, trips=trips, opening=opening),
                                 tuple(min(opening, key=lambda h: (row[h], h)) for row in trips))
            self.assertEqual(check_call(self, w.least_all_in, trips=trips, prices=prices),
                             min(all_in_by_hand(trips, prices, opening) for opening in openings))

    def test_alike_trips_go_to_the_least_number(self):
        self.assertEqual(w.nearest_open(((3, 3, 3), (1, 0, 0)), (0, 1, 2)), (0, 1))
        self.assertEqual(w.nearest_open(((3, 3, 3),), (1, 2)), (1,))

    def test_eight(self):
        dice = random.Random(2)
        trips = tuple(tuple(dice.randint(0, 10 ** 12) for _ in range(8)) for _ in range(10))
        prices = tuple(dice.randint(0, 10 ** 12) for _ in range(8))
        self.assertEqual(w.least_all_in(trips, prices),
                         min(all_in_by_hand(trips, prices, opening) for opening in openings_by_hand(8)))


class PaymentsTest(unittest.TestCase):

    def test_taken_by(self):
        dice = random.Random(3)
        for _ in range(60):
            trips, prices = random_trips(dice)
            pays = tuple(dice.randint(0, 6) for _ in trips)
            taken = []
            for house in range(len(prices)):
                taken.append(sum(max(0, pay - row[house]) for pay, row in zip(pays, trips)))
                self.assertEqual(check_call(self, w.taken_by, trips=trips, payments=pays, house=house), taken[-1])
            right = all(one <= price for one, price in zip(taken, prices))
            self.assertIs(check_call(self, w.right_way_payments, trips=trips, prices=prices, value=pays), right)
            for opening in openings_by_hand(len(prices)):
                meets = right and sum(pays) == all_in_by_hand(trips, prices, opening)
                self.assertIs(check_call(self, w.check_ways, trips=trips, prices=prices, value=(opening, pays)), meets)
                if right:
                    self.assertLessEqual(sum(pays), all_in_by_hand(trips, prices, opening))

    def test_right_at_the_edge(self):
        self.assertIs(w.right_way_payments(TRIPS, PRICES, (2, 2)), True)
        self.assertIs(w.right_way_payments(TRIPS, PRICES, (3, 2)), False)
        self.assertIs(w.right_way_payments(((3,),), (0,), (3,)), True)
        self.assertIs(w.right_way_payments(((3,),), (0,), (4,)), False)

    def test_no_way_payments(self):
        for value in (None, (), (0,), (0, 0, 0), [0, 0], (0, -1), (True, 0), (0, None), ((0, 1), (0, 1)), "ab"):
            self.assertIs(w.right_way_payments(TRIPS, PRICES, value), False)
            self.assertIs(w.check_ways(TRIPS, (0, 0), ((0, 1), value)), False)

    def test_check_ways(self):
        self.assertEqual((w.check_ways(TRIPS, PRICES, ((0, 1), (2, 2))), w.check_ways(TRIPS, PRICES, ((0,), (2, 2)))),
                         (True, False))
        for opening in ((1, 0), (), (0, 0, 1), [0, 1], (0, 2), (-1, 0, 1), (False, True), (0, True), ("a",), None, 0,
                        (0, 1, 1), (None,), (0, 1, 2)):
            self.assertIs(w.check_ways(TRIPS, PRICES, (opening, (2, 2))), False)
        for value in (None, [(0, 1), (2, 2)], ((0, 1),), ((0, 1), (2, 2), ()), ((2, 2), (0, 1)), ()):
            self.assertIs(w.check_ways(TRIPS, PRICES, value), False)
        self.assertIs(w.check_ways(((0, 0),), (0, 0), ((0, 0), (0,))), False)
        self.assertIs(w.check_ways(((0, 0),), (0, 0), ((1, 0), (0,))), False)
        # The sum is right, but a house takes more than its price.
        self.assertIs(w.check_ways(TRIPS, PRICES, ((0, 1), (3, 1))), False)

    def test_openings_of_every_house(self):
        trips = tuple(tuple(int(i != j) for j in range(4)) for i in range(4))
        self.assertIs(w.check_ways(trips, (0,) * 4, ((0, 1, 2, 3), (0,) * 4)), True)
        self.assertEqual(w.least_all_in(trips, (0,) * 4), 0)

    def test_any_value(self):
        for value in ANY:
            self.assertIs(w.check_ways(((0,),), (0,), value), False)
            self.assertIs(w.check_ways(((0,),), (0,), ((0,), value)), False)
            self.assertIs(w.check_ways(((0,),), (0,), (value, (0,))), False)
            self.assertIs(w.right_way_payments(((0,),), (1,), value), type(value) is tuple and value == (1,))
        self.assertIs(w.check_ways(((0,),), (0,), ((0,), (0,))), True)


if __name__ == "__main__":
    unittest.main()
