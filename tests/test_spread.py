"""[49] Houses of one reach, as few as will do."""

import itertools
import random
import unittest

from servedall.errors import InvalidSize
from servedall.roads import Roads, roads_of, way
from servedall.spread import check_spread, spread
from support import ANY, check_call, raised, random_roads, random_seats, subsets

LAND = roads_of(("a", "b", "c", "d"), (("b", "a", 2), ("b", "c", 3), ("b", "d", 4)))
DOT = Roads(("a",), ())
FOLK = (("p", "a", 0), ("q", "c", 1), ("r", "d", 0))
SPOTS = ("a", "b", "d")


def served_by_hand(roads, people, spot, reach):
    return {name for name, place, more in people if way(roads, spot, place) <= reach + more}


def will_do_by_hand(roads, people, spots, many, reach):
    """Whether some of the spots, as many at most, with this reach, serve all."""
    lots = {spot: served_by_hand(roads, people, spot, reach) for spot in spots}
    return any(len(some) <= many and len(set().union(*[lots[spot] for spot in some])) == len(people)
               for some in subsets(spots))


def least_by_hand(roads, people, spots, many):
    reach = 0
    while not will_do_by_hand(roads, people, spots, many, reach):
        reach += 1
    return reach


def is_right_by_hand(roads, people, spots, many, value, least):
    """Whether something is a triple, straight from the words."""
    if not isinstance(value, tuple) or len(value) != 3:
        return False
    reach, places, apart = value
    if type(reach) is not int or reach != least or not isinstance(places, tuple) or not isinstance(apart, tuple):
        return False
    if any(place not in spots for place in places) or list(places) != sorted(set(places)) or len(places) > many:
        return False
    if len(set().union(*[served_by_hand(roads, people, place, reach) for place in places])) < len(people):
        return False
    if reach == 0:
        return apart == ()
    if any(name not in [one[0] for one in people] for name in apart) or list(apart) != sorted(set(apart)):
        return False
    lots = [served_by_hand(roads, people, spot, reach - 1) for spot in spots]
    if len(apart) == 1:
        return not any(apart[0] in lot for lot in lots)
    return len(apart) == many + 1 and all(len(lot & set(apart)) < 2 for lot in lots)


class SpreadTest(unittest.TestCase):

    def check_case(self, roads, people, spots, many, least=None):
        call = {"roads": roads, "people": people, "spots": spots, "many": many}
        value = check_call(self, spread, **call)
        self.assertEqual(spread(roads, people, list(spots), many), value)
        self.assertEqual(spread(roads, people, spots[::-1], many)[0], value[0])
        self.assertIs(check_call(self, check_spread, **call, value=value), True)
        self.assertIs(check_spread(roads, people, list(spots), many, value), True)
        if least is None:
            least = least_by_hand(roads, people, spots, many)
        self.assertTrue(is_right_by_hand(roads, people, spots, many, value, least), (call, value, least))

    def test_example(self):
        self.assertEqual((spread(LAND, FOLK, SPOTS, 2)[:2], check_spread(LAND, FOLK, SPOTS, 2, (2, ("b", "d"), ("q",)))),
                         ((2, ("b", "d")), True))

    def test_all_kinds(self):
        dice = random.Random(1)
        for _ in range(80):
            roads = random_roads(dice, dice.randint(1, 7))
            people = random_seats(dice, roads, "pqrstu"[:dice.randint(0, 6)], most=dice.choice((0, 6)))
            spots = tuple(dice.sample(roads.places, dice.randint(1, len(roads.places))))
            for many in (1, 2, 3, 7, 10 ** 30):
                self.check_case(roads, people, spots, many)

    def test_great_numbers(self):
        dice = random.Random(2)
        roads = random_roads(dice, 14, most=10 ** 6)
        people = random_seats(dice, roads, "abcdefghijkl", most=10 ** 6)
        for many in (1, 2, 4, 14):
            value = spread(roads, people, roads.places, many)
            self.assertIs(check_spread(roads, people, roads.places, many, value), True)
            self.assertTrue(is_right_by_hand(roads, people, roads.places, many, value, value[0]))
            self.assertIs(will_do_by_hand(roads, people, roads.places, many, value[0]), True)
            self.assertTrue(value[0] == 0 or not will_do_by_hand(roads, people, roads.places, many, value[0] - 1))

    def test_nobody_and_one_place(self):
        self.assertEqual(spread(LAND, (), SPOTS, 1), (0, (), ()))
        self.assertEqual(spread(DOT, (), ("a",), 5), (0, (), ()))
        self.assertEqual(spread(DOT, (("p", "a", 0), ("q", "a", 3)), ("a",), 1), (0, ("a",), ()))
        for spots in itertools.permutations("abcd", 3):
            self.check_case(LAND, (("p", "a", 0),), spots, 1)

    def test_no_reach_is_needed(self):
        wide = (("p", "a", 9), ("q", "c", 9))
        self.assertEqual(spread(LAND, wide, ("b",), 1), (0, ("b",), ()))
        self.assertEqual(spread(LAND, FOLK, LAND.places, 3)[0], 0)
        self.check_case(LAND, FOLK, LAND.places, 3)
        self.assertEqual(spread(LAND, FOLK, LAND.places, 2)[0], 2)

    def test_one_apart_and_several(self):
        self.assertEqual(spread(LAND, (("p", "a", 0),), ("d",), 1), (6, ("d",), ("p",)))
        reach, places, apart = spread(LAND, FOLK, LAND.places, 1)
        self.assertEqual((reach, places, len(apart)), (4, ("b",), 2))

    def test_many(self):
        for many in (0, -1, True, False, None, "1", (1,), [1], -10 ** 59):
            self.assertEqual(raised(spread, roads=LAND, people=FOLK, spots=SPOTS, many=many), (InvalidSize, "many"))
        for value in ANY:
            if type(value) is not int or value < 1:
                self.assertEqual(raised(spread, LAND, FOLK, SPOTS, value), (InvalidSize, "many"))
            else:
                self.check_case(LAND, FOLK, SPOTS, value)


class CheckTest(unittest.TestCase):

    def test_all_triples(self):
        for many, spots in ((1, SPOTS), (2, SPOTS), (2, LAND.places), (3, LAND.places)):
            least = least_by_hand(LAND, FOLK, spots, many)
            right = 0
            for reach in range(6):
                for places, apart in itertools.product(subsets(LAND.places), subsets(("p", "q", "r"))):
                    told = is_right_by_hand(LAND, FOLK, spots, many, (reach, places, apart), least)
                    right += told
                    value = (reach, places, apart)
                    self.assertIs(check_spread(roads=LAND, people=FOLK, spots=spots, many=many, value=value), told, value)
            self.assertGreater(right, 0)

    def test_wrong_ones(self):
        for value in ([2, ("b", "d"), ("q",)], (2, ["b", "d"], ("q",)), (2, ("b", "d"), ["q"]), (2, ("d", "b"), ("q",)),
                      (2, ("b", "d"), ()), (2, ("b", "d"), ("z",)), (2, ("b", "d"), ("q", "q")), (2, ("b", "d")),
                      (2, ("b", "d"), ("q",), ()), (2, ("b", "c"), ("q",)), (3, ("b", "d"), ("q",)), (2, ("b",), ("q",)),
                      (2, ("b", "b", "d"), ("q",)), (2, ("a", "b", "d"), ("q",)), (2, ("b", "d"), ("r", "q", "p")), None):
            self.assertIs(check_spread(LAND, FOLK, SPOTS, 2, value), False, value)
        # Without a reach nobody is told to be apart.
        self.assertIs(check_spread(LAND, (), SPOTS, 2, (0, (), ())), True)
        self.assertIs(check_spread(LAND, FOLK, LAND.places, 3, (0, ("a", "c", "d"), ("p",))), False)
        self.assertIs(check_spread(LAND, FOLK, LAND.places, 3, (False, ("a", "c", "d"), ())), False)
        self.assertIs(check_spread(LAND, FOLK, LAND.places, 3, (0, ("a", "c", "d"), ())), True)

    def test_any_value(self):
        for value in ANY:
            for one in (value, (value, ("b", "d"), ("q",)), (2, value, ("q",)), (2, ("b", "d"), value),
                        (2, ("b", value), ("q",)), (2, ("b", "d"), (value,)), (0, ("b", "d"), value)):
                self.assertIs(check_spread(LAND, FOLK, SPOTS, 2, one), False)
            self.assertIs(check_spread(DOT, (), ("a",), 1, (0, (), value)), isinstance(value, tuple) and value == ())


if __name__ == "__main__":
    unittest.main()
