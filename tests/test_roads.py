"""[44], [45] Roads."""

import itertools
import random
import unittest

from servedall import roads as r
from servedall.errors import InvalidRoads
from servedall.roads import Roads, roads_of
from servedall.tables import Table
from support import ANY, check_call, raised, random_roads

LAND = roads_of(("a", "b", "c", "d"), (("b", "a", 2), ("b", "c", 3), ("b", "d", 4)))
ALONE = Roads(("a",), ())
LONG = tuple("abcdefghijklmn")


def ways_by_hand(roads):
    """For each two places the way and the places on it, found by trying all rows of lines."""
    found = {(place, place): (0, (place,)) for place in roads.places}
    more = True
    while more:
        more = False
        for (one, other), (length, places) in list(found.items()):
            for first, second, further in roads.lines:
                for here, there in ((first, second), (second, first)):
                    if here == other and (one, there) not in found:
                        found[one, there] = (length + further, places + (there,))
                        more = True
    return found


class RoadsTest(unittest.TestCase):

    def test_it_keeps_any_values_as_they_are(self):
        for value in ANY:
            roads = Roads(value, [value])
            self.assertEqual((roads.places, roads.lines), (value, [value]))
        roads = Roads(lines=2, places=[1])
        self.assertEqual((roads.places, roads.lines), ([1], 2))

    def test_later_changes_do_not_show(self):
        lines = [["a"], (["b"],)]
        roads = Roads(lines, lines)
        lines[0].append(1)
        lines[1][0].append(1)
        self.assertEqual((roads.places, roads.lines), ([["a"], (["b"],)],) * 2)

    def test_equality(self):
        self.assertTrue(Roads(1, 2) == Roads(1, 2))
        for other in (Roads(0, 2), Roads(1, 0), Table(1, 2, 3), (1, 2), None):
            self.assertFalse(Roads(1, 2) == other)
            self.assertTrue(Roads(1, 2) != other)


class NeedTest(unittest.TestCase):

    def check(self, roads, kept):
        self.assertEqual(raised(r.need_roads, roads), (InvalidRoads, kept))
        self.assertIs(r.is_roads(roads), False)

    def test_roads(self):
        row = Roads(LONG, tuple((a, b, 10 ** 6) for a, b in zip(LONG, LONG[1:])))
        for roads in (LAND, ALONE, row, Roads(("a", "b"), (("a", "b", 1),))):
            self.assertEqual(raised(r.need_roads, value=roads), (None, None))
            self.assertIs(r.is_roads(value=roads), True)

    def test_no_roads(self):
        for value in (None, ("a",), Roads(["a"], ()), Roads(("a",), []), Roads((), ()), Roads("a", ()),
                      Table(("a",), (), ()), Roads((), (1,)), Roads((1,), [])):
            self.check(value, -1)

    def test_places(self):
        for wrong in ("", "A", 1, None, "abcdefghi", ("a",), True):
            self.check(Roads((wrong,), ()), (0, 0))
            self.check(Roads(("a", wrong, wrong), (1,)), (0, 1))
        self.check(Roads(("a", "a"), ()), (0, 1))
        self.check(Roads(("b", "a"), ()), (0, 1))

    def test_lines(self):
        for wrong in (None, ("a", "b"), ["a", "b", 1], ("b", "a", 1), ("a", "a", 1), ("a", "z", 1), ("a", "b", 0),
                      ("a", "b", -1), ("a", "b", True), ("a", "b", "1"), ("a", "b", 1, 1), ("a", 1, 1), (1, "b", 1),
                      (["a"], "b", 1), ("a", "b", (1, 1)), ("a", "b", None)):
            self.check(Roads(("a", "b"), (wrong,)), (1, 0))
            self.check(Roads(("a", "b", "c"), (("a", "c", 1), wrong, wrong)), (1, 1))

    def test_ascending_lines(self):
        places = ("a", "b", "c", "d")
        self.check(Roads(places, (("a", "c", 1), ("a", "b", 2), ("c", "d", 1))), (1, 1))
        self.check(Roads(places, (("a", "b", 1), ("a", "b", 2), ("c", "d", 1))), (1, 1))
        self.check(Roads(places, (("a", "b", 2), ("a", "b", 1))), (1, 1))
        self.check(Roads(places, (("b", "c", 1), ("a", "d", 1))), (1, 1))

    def test_rounds(self):
        self.check(Roads(("a", "b", "c"), (("a", "b", 1), ("a", "c", 1), ("b", "c", 1))), (1, 2))
        four = (("a", "b", 1), ("a", "d", 1), ("b", "c", 1), ("c", "d", 1))
        self.check(Roads(("a", "b", "c", "d"), four), (1, 3))
        self.check(Roads(("a", "b", "c", "d", "e"), four + (("d", "e", 0),)), (1, 3))

    def test_not_together(self):
        self.check(Roads(("a", "b"), ()), (1, 0))
        self.check(Roads(("a", "b", "c"), (("a", "b", 1),)), (1, 1))
        self.check(Roads(("a", "b", "c", "d"), (("a", "b", 1), ("c", "d", 1))), (1, 2))

    def test_any_value(self):
        for value in ANY:
            error, _ = raised(r.need_roads, value)
            self.assertIs(r.is_roads(value), error is None)
            self.assertEqual(raised(r.need_roads, Roads(("a", "b"), (value,))),
                             (None, None) if value == ("a", "b", 1) else (InvalidRoads, (1, 0)))
            self.assertIs(r.is_roads(Roads(value, value)), False)


class RoadsOfTest(unittest.TestCase):

    def test_any_order_and_twice(self):
        dice = random.Random(1)
        for _ in range(60):
            roads = random_roads(dice, dice.randint(1, 8))
            self.assertTrue(r.is_roads(roads))
            places, lines = list(roads.places) * 2, list(roads.lines) * 2
            dice.shuffle(places)
            dice.shuffle(lines)
            lines = [(b, a, length) if dice.random() < 0.5 else (a, b, length) for a, b, length in lines]
            self.assertEqual(check_call(self, roads_of, places=places, lines=lines), roads)
            self.assertEqual(roads_of(tuple(places), tuple(lines)), roads)

    def test_later_changes_do_not_show(self):
        places, lines = ["a", "b"], [("b", "a", 1)]
        roads = roads_of(places, lines)
        places.append("c")
        lines.append(("a", "c", 1))
        self.assertEqual(roads, Roads(("a", "b"), (("a", "b", 1),)))


class WayTest(unittest.TestCase):

    def test_example(self):
        self.assertEqual((r.way_places(LAND, "a", "d"), r.meeting(LAND, "a", "c", "d"), r.branches(LAND, "b")),
                         (("a", "b", "d"), "b", (("a", ("a",)), ("c", ("c",)), ("d", ("d",)))))

    def test_all_ways(self):
        dice = random.Random(2)
        for _ in range(30):
            roads = random_roads(dice, dice.randint(1, 9))
            by_hand = ways_by_hand(roads)
            for one in roads.places:
                self.assertEqual(check_call(self, r.ways_from, roads=roads, place=one),
                                 tuple(by_hand[one, other][0] for other in roads.places))
                for other in roads.places:
                    self.assertEqual(check_call(self, r.way, roads=roads, one=one, other=other), by_hand[one, other][0])
                    self.assertEqual(check_call(self, r.way_places, roads=roads, one=one, other=other),
                                     by_hand[one, other][1])
                self.check_branches(roads, one, by_hand)

    def check_branches(self, roads, place, by_hand):
        lots = {}
        for other in roads.places:
            if other != place:
                lots.setdefault(by_hand[place, other][1][1], []).append(other)
        self.assertEqual(check_call(self, r.branches, roads=roads, place=place),
                         tuple((one, tuple(lots[one])) for one in sorted(lots)))

    def test_meeting(self):
        dice = random.Random(3)
        for _ in range(15):
            roads = random_roads(dice, dice.randint(1, 6))
            by_hand = ways_by_hand(roads)
            for one, other, third in itertools.product(roads.places, repeat=3):
                place = check_call(self, r.meeting, roads=roads, one=one, other=other, third=third)
                for two in itertools.combinations((one, other, third), 2):
                    self.assertIn(place, by_hand[two][1])
                    self.assertEqual(by_hand[two][0], by_hand[two[0], place][0] + by_hand[place, two[1]][0])

    def test_four_places(self):
        dice = random.Random(4)
        for _ in range(100):
            roads = random_roads(dice, 7)
            a, b, c, d = (dice.choice(roads.places) for _ in range(4))
            sums = sorted([r.way(roads, a, b) + r.way(roads, c, d), r.way(roads, a, c) + r.way(roads, b, d),
                           r.way(roads, a, d) + r.way(roads, b, c)])
            self.assertEqual(sums[1], sums[2])

    def test_one_place(self):
        self.assertEqual((r.way(ALONE, "a", "a"), r.way_places(ALONE, "a", "a"), r.ways_from(ALONE, "a"),
                          r.meeting(ALONE, "a", "a", "a"), r.branches(ALONE, "a")), (0, ("a",), (0,), "a", ()))

    def test_long_row(self):
        row = Roads(LONG, tuple((a, b, 10 ** 6) for a, b in zip(LONG, LONG[1:])))
        self.assertEqual((r.way(row, "n", "a"), r.way_places(row, "n", "a")), (13 * 10 ** 6, LONG[::-1]))
        self.assertEqual(r.branches(row, "b"), (("a", ("a",)), ("c", LONG[2:])))


if __name__ == "__main__":
    unittest.main()
