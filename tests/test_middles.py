"""[50] Middles and centres."""

import random
import unittest

from servedall import middles as m
from servedall.roads import Roads, branches, roads_of, way, way_places
from support import check_call, random_roads, random_seats

LAND = roads_of(("a", "b", "c", "d"), (("b", "a", 2), ("b", "c", 3), ("b", "d", 4)))
FOLK = (("p", "a", 0), ("q", "c", 1), ("r", "d", 0))
DOT = Roads(("a",), ())


class MiddlesTest(unittest.TestCase):

    def check_roads(self, roads, people):
        sums, farthest = {}, {}
        for place in roads.places:
            ways = [way(roads, place, other) for _, other, _ in people]
            sums[place] = check_call(self, m.sum_from, roads=roads, people=people, place=place)
            farthest[place] = check_call(self, m.farthest_from, roads=roads, people=people, place=place)
            self.assertEqual((sums[place], farthest[place]), (sum(ways), max([0] + ways)))
            self.assertEqual(check_call(self, m.branch_counts, roads=roads, people=people, place=place),
                             tuple((beside, sum(other in beyond for _, other, _ in people))
                                   for beside, beyond in branches(roads, place)))
        found = check_call(self, m.middles, roads=roads, people=people)
        self.assertEqual(found, tuple(p for p in roads.places if sums[p] == min(sums.values())))
        centres = check_call(self, m.centres, roads=roads, people=people)
        self.assertEqual(centres, tuple(p for p in roads.places if farthest[p] == min(farthest.values())))
        for place in roads.places:
            counts = m.branch_counts(roads, people, place)
            self.assertIs(place in found, all(2 * many <= len(people) for _, many in counts))
            self.assertIs(place in found, all(sums[place] <= sums[beside] for beside, _ in counts))
            self.assertIs(place in centres, all(farthest[place] <= farthest[beside] for beside, _ in counts))
            if place in found:
                self.assertTrue(all(set(way_places(roads, place, other)) <= set(found) for other in found))

    def test_example(self):
        self.assertEqual((m.middles(LAND, FOLK), m.centres(LAND, FOLK), m.branch_counts(LAND, FOLK, "a")),
                         (("b",), ("b",), (("b", 2),)))

    def test_all_kinds(self):
        dice = random.Random(1)
        for _ in range(80):
            roads = random_roads(dice, dice.randint(1, 9))
            self.check_roads(roads, random_seats(dice, roads, "abcdefgh"[:dice.randint(0, 8)]))

    def test_fourteen(self):
        dice = random.Random(2)
        for _ in range(3):
            roads = random_roads(dice, 14, 10 ** 6)
            self.check_roads(roads, random_seats(dice, roads, "abcdefghijkl", 10 ** 6))

    def test_reaches_do_not_count(self):
        for place in LAND.places:
            other = tuple((name, at, reach + 10 ** 6) for name, at, reach in FOLK)
            self.assertEqual(m.sum_from(LAND, other, place), m.sum_from(LAND, FOLK, place))
            self.assertEqual(m.farthest_from(LAND, other, place), m.farthest_from(LAND, FOLK, place))
            self.assertEqual(m.branch_counts(LAND, other, place), m.branch_counts(LAND, FOLK, place))

    def test_several_middles(self):
        two = (("p", "a", 0), ("q", "d", 0))
        self.assertEqual((m.middles(LAND, two), m.centres(LAND, two)), (("a", "b", "d"), ("b",)))

    def test_nobody(self):
        self.assertEqual((m.sum_from(LAND, (), "a"), m.farthest_from(LAND, (), "a")), (0, 0))
        self.assertEqual((m.middles(LAND, ()), m.centres(LAND, ())), (LAND.places, LAND.places))
        self.assertEqual(m.branch_counts(LAND, (), "b"), (("a", 0), ("c", 0), ("d", 0)))
        self.check_roads(LAND, ())

    def test_one_place(self):
        self.assertEqual((m.middles(DOT, ()), m.centres(DOT, ()), m.branch_counts(DOT, (), "a")), (("a",), ("a",), ()))
        self.check_roads(DOT, (("p", "a", 3), ("q", "a", 0)))


if __name__ == "__main__":
    unittest.main()
