"""[48] Seats for the houses of a table, or a house that has none."""

import itertools
import random
import unittest

from servedall.placing import check_placing, placing
from servedall.roads import Roads, roads_of, way
from servedall.seats import is_seats, road_table
from servedall.tables import Table, table_of
from support import ANY, check_call, random_roads, random_seats, subsets

LAND = roads_of(("a", "b", "c", "d"), (("b", "a", 2), ("b", "c", 3), ("b", "d", 4)))
DOT = Roads(("a",), ())
FOLK = (("p", "a", 0), ("q", "c", 1), ("r", "d", 0))
PR = table_of("pqr", "x", [("p", "x"), ("r", "x")])
LOST = ("lost", "x", (("r", "q"), ("r", "q"), ("r", "q"), ("p", "q")))


def served_by_hand(roads, people, place, reach):
    return {name for name, other, more in people if way(roads, place, other) <= reach + more}


def can_be_placed(roads, people, own):
    """Whether a house at some place and with some reach serves just some people."""
    most = max([way(roads, one, other) for one in roads.places for other in roads.places])
    return any(served_by_hand(roads, people, place, reach) == set(own)
               for place in roads.places for reach in range(most + 1))


def is_right_by_hand(roads, people, table, value):
    """Whether something is seats that make the table, or a lost house, straight from the words."""
    if not isinstance(value, tuple) or len(value) not in (2, 3):
        return False
    if len(value) == 2:
        return value[0] == "placed" and is_seats(roads, value[1]) and road_table(roads, people, value[1]) == table
    word, house, rows = value
    if word != "lost" or house not in table.houses or not isinstance(rows, tuple) or len(rows) != len(roads.places):
        return False
    for place, row in zip(roads.places, rows):
        if not isinstance(row, tuple) or len(row) != 2:
            return False
        near, far = row
        if far not in table.people or (far, house) in table.pairs:
            return False
        if near is not None and (near not in table.people or (near, house) not in table.pairs):
            return False
        reach = 0
        while near is not None and near not in served_by_hand(roads, people, place, reach):
            reach += 1
        if far not in served_by_hand(roads, people, place, reach):
            return False
    return True


class PlacingTest(unittest.TestCase):

    def check_table(self, roads, people, table):
        call = {"roads": roads, "people": people, "table": table}
        value = check_call(self, placing, **call)
        self.assertIs(check_call(self, check_placing, **call, value=value), True)
        self.assertTrue(is_right_by_hand(roads, people, table, value), (roads.lines, people, table.pairs, value))
        all_placed = all(can_be_placed(roads, people, [p for p, h in table.pairs if h == house])
                         for house in table.houses)
        self.assertEqual(value[0], "placed" if all_placed else "lost")
        self.assertEqual(len(value), 2 if all_placed else 3)
        return value[0]

    def test_example(self):
        self.assertEqual(placing(LAND, FOLK, PR)[:2], ("lost", "x"))

    def test_all_tables_of_some_roads(self):
        dice = random.Random(1)
        words = []
        for _ in range(12):
            roads = random_roads(dice, dice.randint(1, 5), most=3)
            people = random_seats(dice, roads, "pqr"[:dice.randint(0, 3)], most=3)
            names = [name for name, _, _ in people]
            for lots in itertools.product(list(subsets(names)), repeat=2):
                pairs = [(name, house) for house, lot in zip("xy", lots) for name in lot]
                words.append(self.check_table(roads, people, table_of(names, "xy", pairs)))
        self.assertEqual(set(words), {"placed", "lost"})

    def test_tables_from_seats(self):
        dice = random.Random(2)
        for _ in range(60):
            roads = random_roads(dice, dice.randint(1, 9))
            people = random_seats(dice, roads, "abcdefgh"[:dice.randint(0, 8)])
            houses = random_seats(dice, roads, "pqrstu"[:dice.randint(0, 6)])
            self.assertEqual(self.check_table(roads, people, road_table(roads, people, houses)), "placed")

    def test_great_numbers(self):
        dice = random.Random(3)
        roads = random_roads(dice, 14, most=10 ** 6)
        people = random_seats(dice, roads, "abcdefghijkl", most=10 ** 6)
        houses = random_seats(dice, roads, "mnopqrstuvwx", most=10 ** 6)
        table = road_table(roads, people, houses)
        self.assertEqual(placing(roads, people, table)[0], "placed")
        for _ in range(20):
            pairs = [pair for pair in table.pairs if dice.random() < 0.9]
            value = placing(roads, people, table_of(table.people, table.houses, pairs))
            self.assertIs(check_placing(roads, people, table_of(table.people, table.houses, pairs), value), True)

    def test_edges(self):
        self.assertEqual(placing(DOT, (), Table((), (), ())), ("placed", ()))
        self.assertEqual(placing(DOT, (("p", "a", 0),), Table(("p",), (), ())), ("placed", ()))
        self.assertEqual(self.check_table(DOT, (), Table((), ("x",), ())), "placed")
        # At one place a house with a reach of 0 serves all.
        self.assertEqual(placing(DOT, (("p", "a", 0),), Table(("p",), ("x",), ())), ("lost", "x", ((None, "p"),)))
        self.assertEqual(self.check_table(DOT, (("p", "a", 5),), Table(("p",), ("x",), (("p", "x"),))), "placed")
        # Somebody with a great reach is served from everywhere.
        wide = (("p", "a", 9), ("q", "c", 0))
        self.assertEqual(self.check_table(LAND, wide, table_of("pq", "x", [("q", "x")])), "lost")
        self.assertEqual(self.check_table(LAND, wide, table_of("pq", "x", [("p", "x")])), "placed")


class CheckTest(unittest.TestCase):

    def check(self, value, wanted, people=FOLK, table=PR):
        self.assertIs(is_right_by_hand(LAND, people, table, value), wanted)
        self.assertIs(check_placing(roads=LAND, people=people, table=table, value=value), wanted)

    def test_all_rows(self):
        names = ["p", "q", "r", None, "x"]
        for rows in itertools.product(itertools.product(names, repeat=2), repeat=2):
            self.check(("lost", "x", rows + LOST[2][2:]), is_right_by_hand(LAND, FOLK, PR, ("lost", "x", rows + LOST[2][2:])))
        self.check(LOST, True)

    def test_seats(self):
        table = table_of("pqr", "xy", [("p", "x"), ("q", "x"), ("r", "y")])
        dice = random.Random(4)
        found = set()
        for place, reach, other, more in itertools.product("abcd", range(8), "abcd", range(8)):
            value = ("placed", (("x", place, reach), ("y", other, more)))
            if dice.random() < 0.2:
                right = is_right_by_hand(LAND, FOLK, table, value)
                found.add(right)
                self.check(value, right, table=table)
        self.assertEqual(found, {True, False})

    def test_wrong_ones(self):
        seats = (("x", "a", 0),)
        table = table_of("pqr", "x", [("p", "x")])
        self.check(("placed", seats), True, table=table)
        for value in (("placed", list(seats)), ["placed", seats], ("lost", seats), ("placed", seats, ()), ("placed",), seats,
                      ("placed", (("y", "a", 0),)), ("placed", (("x", "a", -1),)), ("placed", (("x", "e", 0),)),
                      ("placed", seats + (("y", "a", 0),)), ("placed", ()), (seats, "placed"), ("placed", (("x", "a", True),)),
                      ("placed", (("x", "a", 4),)), None, "placed"):
            self.check(value, False, table=table)
        for value in (list(LOST), LOST[1:], LOST + ((),), ("placed",) + LOST[1:], ("lost", "y", LOST[2]),
                      ("lost", ["x"], LOST[2]), ("lost", "x", list(LOST[2])), ("lost", "x", LOST[2][:3]),
                      ("lost", "x", LOST[2] + LOST[2][:1]), ("lost", "x", LOST[2][:3] + (["p", "q"],)),
                      ("lost", "x", LOST[2][:3] + (("p", "q", "q"),)), ("lost", "x", LOST[2][:3] + (None,))):
            self.check(value, False)

    def test_any_value(self):
        for value in ANY:
            for one in (value, ("placed", value), ("placed", (value,)), (value, ()), ("lost", value, LOST[2]),
                        ("lost", "x", value), ("lost", "x", (value,) + LOST[2][1:]), (value,) + LOST[1:],
                        ("lost", "x", ((value, "z"),) + LOST[2][1:]), ("lost", "x", (("r", value),) + LOST[2][1:])):
                self.assertIs(check_placing(LAND, FOLK, PR, one), False)
        self.check(LOST, True)


if __name__ == "__main__":
    unittest.main()
