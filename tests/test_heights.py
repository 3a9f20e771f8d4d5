"""[47] Heights, and the order that they make."""

import random
import unittest

from servedall.heights import height, road_order
from servedall.orders import is_straight, need_order
from servedall.roads import Roads, meeting, roads_of, way
from servedall.tables import table_of
from support import check_call, raised, random_roads, random_seats

LAND = roads_of(("a", "b", "c", "d"), (("b", "a", 2), ("b", "c", 3), ("b", "d", 4)))
FOLK = (("p", "a", 0), ("q", "c", 1), ("r", "d", 0))
SHOPS = (("x", "b", 2), ("y", "d", 6))


def table_by_hand(roads, people, houses):
    """Who is served: whose way to a house is at most both reaches together."""
    return table_of([name for name, _, _ in people], [name for name, _, _ in houses],
                    [(p[0], h[0]) for p in people for h in houses if way(roads, p[1], h[1]) <= p[2] + h[2]])


class HeightsTest(unittest.TestCase):

    def test_example(self):
        self.assertEqual(road_order(LAND, FOLK, SHOPS, "a"), (("r", "q", "p"), ("x", "y")))

    def test_height(self):
        self.assertEqual(check_call(self, height, roads=LAND, root="a", seat=("y", "d", 6)), 0)
        self.assertEqual(height(LAND, "d", ("y", "d", 6)), -6)
        self.assertEqual(height(LAND, "c", ("p", "a", 0)), 5)
        self.assertEqual(height(Roads(("a",), ()), "a", ("p", "a", 10 ** 6)), -10 ** 6)

    def test_those_of_one_height_ascend(self):
        folk = (("a", "a", 0), ("b", "a", 1), ("c", "a", 0), ("d", "a", 1))
        self.assertEqual(road_order(LAND, folk, folk, "a"), (("a", "c", "b", "d"),) * 2)

    def test_nobody(self):
        self.assertEqual(road_order(LAND, (), (), "a"), ((), ()))
        self.assertEqual(road_order(LAND, FOLK[:1], (), "c"), (("p",), ()))

    def test_always_straight(self):
        dice = random.Random(1)
        for _ in range(60):
            roads = random_roads(dice, dice.randint(1, 9))
            people = random_seats(dice, roads, "abcdefgh"[:dice.randint(0, 8)])
            houses = random_seats(dice, roads, "hijklmno"[:dice.randint(0, 8)])
            table = table_by_hand(roads, people, houses)
            for root in roads.places:
                order = check_call(self, road_order, roads=roads, people=people, houses=houses, root=root)
                self.assertEqual(raised(need_order, table, order), (None, None))
                self.assertTrue(is_straight(table, order))
                for names, seats in zip(order, (people, houses)):
                    heights = {seat[0]: height(roads, root, seat) for seat in seats}
                    self.assertEqual(list(names), sorted(heights, key=lambda name: (-heights[name], name)))
                self.check_meetings(roads, people, houses, root, table)

    def check_meetings(self, roads, people, houses, root, table):
        for person in people:
            for house in houses:
                far = way(roads, root, meeting(roads, root, person[1], house[1]))
                both = height(roads, root, person) + height(roads, root, house)
                self.assertIs((person[0], house[0]) in table.pairs, 2 * far >= both)


if __name__ == "__main__":
    unittest.main()
