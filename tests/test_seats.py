"""[46] Seats on roads."""

import itertools
import random
import unittest

from servedall import seats as s
from servedall.errors import InvalidRoads
from servedall.heights import road_order
from servedall.orders import is_straight
from servedall.roads import Roads, roads_of, way, way_places
from servedall.tables import Table, table_of, turned
from support import ANY, check_call, raised, random_roads, random_seats

LAND = roads_of(("a", "b", "c", "d"), (("b", "a", 2), ("b", "c", 3), ("b", "d", 4)))
DOT = Roads(("a",), ())
FOLK = (("p", "a", 0), ("q", "c", 1), ("r", "d", 0))
SHOPS = (("x", "b", 2), ("y", "d", 6))


class NeedTest(unittest.TestCase):

    def check(self, value, kept, roads=LAND):
        self.assertEqual(raised(s.need_seats, roads=roads, value=value), (InvalidRoads, kept))
        self.assertIs(s.is_seats(roads=roads, value=value), False)

    def test_seats(self):
        for value in ((), FOLK, SHOPS, (("abcdefgh", "d", 10 ** 6),), (("a", "a", 0), ("aa", "a", 0), ("b", "a", 0))):
            self.assertEqual(raised(s.need_seats, roads=LAND, value=value), (None, None))
            self.assertIs(check_call(self, s.is_seats, roads=LAND, value=value), True)

    def test_no_tuple(self):
        for value in (None, list(FOLK), "pq", 0, True, {}, LAND):
            self.check(value, -1)

    def test_first_wrong_thing(self):
        for wrong in (None, (), ("q", "c"), ("q", "c", 1, 1), ["q", "c", 1], ("Q", "c", 1), ("", "c", 1), (1, "c", 1),
                      ("qqqqqqqqq", "c", 1), (["q"], "c", 1), ("q", "e", 1), ("q", None, 1), ("q", ["c"], 1),
                      ("q", "c", -1), ("q", "c", True), ("q", "c", None), ("q", "c", (1, 1)), ("p", "c", 1), ("o", "c", 1),
                      ("qq", "cc", 0)):
            self.check((FOLK[0], wrong, FOLK[2]), 1)
            self.check((FOLK[0], wrong, wrong), 1)
            self.check((FOLK[0], FOLK[2], wrong), 2)
        self.check((("p", "a", -1), None), 0)
        self.check((FOLK[0], FOLK[1], FOLK[1]), 2)
        self.check(FOLK, 1, DOT)

    def test_any_value(self):
        for value in ANY:
            right = isinstance(value, tuple) and value in ((), (("a", "b", 1),))
            self.assertIs(s.is_seats(LAND, value), right)
            self.assertIs(raised(s.need_seats, LAND, value)[0], None if right else InvalidRoads)
            self.check((FOLK[0], value), 1)
            self.check((("p", value, 0),), 0, roads=roads_of("zy", [("z", "y", 1)]))
            if type(value) is not int or value < 0:
                self.check((("p", "a", value),), 0)
            if value not in ("a", "abcdefgh"):
                self.check(((value, "a", 0),), 0)


class TableTest(unittest.TestCase):

    def test_example(self):
        self.assertEqual((s.road_table(LAND, FOLK, SHOPS).pairs, s.districts(LAND, SHOPS)),
                         ((("p", "x"), ("p", "y"), ("q", "x"), ("q", "y"), ("r", "y")),
                          (("x", ("a", "b", "c")), ("y", ("d",)))))

    def test_all_kinds(self):
        dice = random.Random(1)
        for _ in range(80):
            roads = random_roads(dice, dice.randint(1, 9))
            people = random_seats(dice, roads, "abcdefgh"[:dice.randint(0, 8)])
            houses = random_seats(dice, roads, "efghijkl"[:dice.randint(0, 8)])
            table = check_call(self, s.road_table, roads=roads, people=people, houses=houses)
            self.assertEqual(table, table_of([one[0] for one in people], [one[0] for one in houses],
                                             [(p[0], h[0]) for p in people for h in houses
                                              if way(roads, p[1], h[1]) <= p[2] + h[2]]))
            self.assertEqual(s.road_table(roads, houses, people), turned(table))
            self.assertTrue(is_straight(table, road_order(roads, people, houses, roads.places[0])))

    def test_fourteen(self):
        dice = random.Random(3)
        roads = random_roads(dice, 14, most=10 ** 6)
        people = random_seats(dice, roads, "abcdefghijkl", most=10 ** 6)
        houses = random_seats(dice, roads, "mnopqrstuvwx", most=10 ** 6)
        table = s.road_table(roads, people, houses)
        self.assertEqual(set(table.pairs), {(p[0], h[0]) for p in people for h in houses
                                            if way(roads, p[1], h[1]) <= p[2] + h[2]})
        self.assertEqual(sorted(place for _, places in s.districts(roads, houses) for place in places),
                         list(roads.places))

    def test_edges(self):
        self.assertEqual(s.road_table(DOT, (), ()), Table((), (), ()))
        self.assertEqual(s.road_table(LAND, FOLK, ()), Table(("p", "q", "r"), (), ()))
        self.assertEqual(s.road_table(DOT, (("p", "a", 0),), (("p", "a", 0),)), Table(("p",), ("p",), (("p", "p"),)))
        near = roads_of("ab", [("a", "b", 1_000_000)])
        for reach, far in itertools.product((0, 1, 500_000, 999_999, 10 ** 6), repeat=2):
            table = s.road_table(near, (("p", "a", reach),), (("x", "b", far),))
            self.assertEqual(len(table.pairs), int(reach + far >= 10 ** 6))


class NearestTest(unittest.TestCase):

    def check_roads(self, roads, houses):
        found = {name: [] for name, _, _ in houses}
        for place in roads.places:
            name = check_call(self, s.nearest, roads=roads, houses=houses, place=place)
            ways = sorted((way(roads, other, place) - reach, house) for house, other, reach in houses)
            self.assertEqual(name, ways[0][1] if ways else None)
            if ways:
                found[name].append(place)
        lots = check_call(self, s.districts, roads=roads, houses=houses)
        self.assertEqual(lots, tuple((name, tuple(places)) for name, places in found.items()))
        for (_, place, _), (_, lot) in zip(houses, lots):
            self.assertTrue(not lot or place in lot)
            self.assertTrue(all(set(way_places(roads, place, other)) <= set(lot) for other in lot))

    def test_all_kinds(self):
        dice = random.Random(2)
        for _ in range(80):
            roads = random_roads(dice, dice.randint(1, 9))
            houses = random_seats(dice, roads, "efghijkl"[:dice.randint(0, 8)])
            self.check_roads(roads, houses)
            people = random_seats(dice, roads, "abcdefgh"[:dice.randint(0, 8)])
            pairs = s.road_table(roads, people, houses).pairs
            for person, place, _ in people:
                served = any(person == name for name, _ in pairs)
                self.assertIs(served, (person, s.nearest(roads, houses, place)) in pairs)

    def test_alike_houses(self):
        # At one place with one reach all places go to the least name.
        alike = (("x", "b", 2), ("y", "b", 2), ("z", "b", 1))
        self.assertEqual(s.districts(LAND, alike), (("x", ("a", "b", "c", "d")), ("y", ()), ("z", ())))
        self.assertEqual(s.nearest(LAND, (("x", "a", 0), ("y", "b", 0)), "b"), "y")
        self.assertEqual(s.nearest(LAND, (("x", "a", 2), ("y", "b", 0)), "b"), "x")
        self.check_roads(LAND, alike)

    def test_no_houses(self):
        self.assertIsNone(s.nearest(LAND, (), "a"))
        self.assertEqual(s.districts(LAND, ()), ())
        self.check_roads(DOT, (("x", "a", 10 ** 6),))


if __name__ == "__main__":
    unittest.main()
