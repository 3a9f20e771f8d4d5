"""[84] Towns on roads."""

import random
import unittest

from servedall.errors import InvalidRoads, Refused
from servedall.heights import road_order
from servedall.passes import is_straight_paper, pass_by
from servedall.roads import Roads, is_roads, roads_of
from servedall.roadtown import RoadTown
from servedall.seats import is_seats, road_table
from servedall.sheets import sheet_holds
from servedall.tables import Table, unserved
from servedall.town import Town, kind_of
from support import ANY, is_plain, least_by_hand, price_by_hand, raised, value_of

FORMS = {"place": 4, "gone": 2, "length": 4, "person": 4, "house": 5, "leave": 2, "close": 2, "price": 3, "move": 4, "reach": 4}
SIDES = {"person": "people", "leave": "people", "house": "houses", "close": "houses", "price": "houses"}


def told(town):
    """All that a town on roads tells at once."""
    return (town.roads_now(), town.people_now(), town.houses_now(), town.prices_now())


class Account:
    """A plain account of a town on roads."""

    def __init__(self, place):
        self.places, self.lines, self.people, self.houses = [place], {}, {}, {}

    def told(self):
        roads = roads_of(self.places, [(*ends, length) for ends, length in self.lines.items()])
        people = tuple((name, *seat) for name, seat in sorted(self.people.items()))
        return (roads, people, tuple((name, *seat[:2]) for name, seat in sorted(self.houses.items())),
                tuple(seat[2] for _, seat in sorted(self.houses.items())))

    def do(self, call):
        """The word of a call of the right form."""
        return (self.do_roads if call[0] in ("place", "gone", "length") else self.do_seat)(*call)

    def do_roads(self, word, name, other="", length=0):
        joined = [ends for ends in self.lines if name in ends]
        if word == "place":
            if name in self.places:
                return "name"
            if other not in self.places:
                return "place"
            self.places.append(name)
            self.lines[tuple(sorted((name, other)))] = length
            return "done"
        if word == "gone":
            if name not in self.places:
                return "name"
            if len(joined) != 1 or name in [seat[0] for seat in [*self.people.values(), *self.houses.values()]]:
                return "held"
            self.places.remove(name)
            del self.lines[joined[0]]
            return "done"
        ends = tuple(sorted((name, other)))
        if ends not in self.lines:
            return "line"
        before, self.lines[ends] = self.lines[ends], length
        return "nothing" if before == length else "done"

    def do_seat(self, word, *things):
        if word in ("move", "reach"):
            seats = self.people if things[0] == "person" else self.houses
            name, new = things[1:]
        else:
            seats, name, new = getattr(self, SIDES[word]), things[0], things[1:]
        if (name in seats) == (word in ("person", "house")):
            return "name"
        if word in ("person", "house", "move") and (new if word == "move" else new[0]) not in self.places:
            return "place"
        if word in ("leave", "close"):
            del seats[name]
            return "done"
        seat = list(seats.get(name, new))
        if word in ("move", "reach", "price"):
            at = ("move", "reach", "price").index(word)
            seat[at] = new[0] if word == "price" else new
        if seats.get(name) == tuple(seat):
            return "nothing"
        seats[name] = tuple(seat)
        return "done"


def random_call(dice):
    """A call of some form, which often cannot be done."""
    name, other = dice.choice("abcd"), dice.choice("abcdef")
    place, number = dice.choice("pqrstuvw"), dice.randint(0, 6)
    side = dice.choice(("person", "house"))
    return dice.choice((("place", place, dice.choice("pqrstuvw"), number + 1), ("place", place, dice.choice("pqr"), number + 1), ("gone", place),
                        ("length", place, dice.choice("pqrstu"), dice.randint(1, 3)), ("length", "p", place, number + 1),
                        ("person", other, place, number), ("person", other, dice.choice("pq"), number), ("house", name, dice.choice("pqr"), number, number),
                        ("house", name, place, number, dice.choice((0, 1, 50))), ("leave", other), ("close", name), ("price", name, number),
                        ("move", side, name, place), ("reach", side, name, dice.randint(0, 3)), ("reach", side, other, number)))


NO_CALLS = [(), "place", ("place",), ("place", "q", "p"), ("place", "q", "p", 0), ("place", "q", "p", -1), ("place", "q", "p", True), ("place", "Q", "p", 1),
            ("place", "q", None, 1), ("place", "q", "p", "1"), ("place", "q", "p", 1, 1), ["place", "q", "p", 1], ("gone",), ("gone", 1), ("gone", "p", "q"),
            ("length", "p", "q"), ("length", "p", "q", 0), ("length", "p", "q", False), ("length", 1, "q", 1), ("person", "a", "p"), ("person", "a", "p", -1),
            ("person", "a", "p", True), ("person", "abcdefghi", "p", 1), ("person", "a", "", 1), ("person", "a", "p", 1, 1), ("house", "a", "p", 1),
            ("house", "a", "p", -1, 1), ("house", "a", "p", 1, -1), ("house", "a", "p", 1, None), ("house", "a", "p", False, 1), ("house", "a", ("p",), 1, 1),
            ("leave",), ("leave", "a", "p"), ("leave", None), ("close",), ("close", ["a"]), ("close", "a", 1), ("price", "a"), ("price", "a", -1),
            ("price", "a", True), ("price", 1, 1), ("move", "person", "a"), ("move", "people", "a", "p"), ("move", "a", "person", "p"), ("move", None, "a", "p"),
            ("move", "house", "a", 1), ("move", "house", 1, "p"), ("move", ("person",), "a", "p"), ("reach", "person", "a"), ("reach", "place", "a", 1),
            ("reach", "person", "a", -1), ("reach", "person", "a", True), ("reach", "house", "a", "p"), ("reach", "a", 1), ("undo",), ("redo",), ("batch", ()),
            ("serve", "a", "b", True), (None,), ((), "p"), None]


class CallTest(unittest.TestCase):

    def check(self, town, call, word):
        before = told(town)
        self.assertEqual(town.do(call), word, call)
        if word == "done":
            self.assertNotEqual(told(town), before)
        else:
            self.assertEqual(told(town), before)

    def test_beginning(self):
        town = RoadTown(place="p")
        self.assertEqual(told(town), (Roads(("p",), ()), (), (), ()))
        self.assertEqual((town.table_now(), town.order_now(), town.both_now()), (Table((), (), ()), ((), ()), ((), ())))
        self.assertEqual((town.town_now().table_now(), len(town.sheets_now())), (Table((), (), ()), 3))
        self.assertFalse(hasattr(town, "place"))
        for value in ANY + ["", "P", "p q"]:
            if value not in ("a", "abcdefgh") or not isinstance(value, str):
                self.assertEqual(raised(RoadTown, value), (InvalidRoads, (0, 0)))
                self.assertEqual(raised(RoadTown, place=value), (InvalidRoads, (0, 0)))

    def test_places(self):
        town = RoadTown("p")
        for call, word in ((("gone", "q"), "name"), (("gone", "p"), "held"), (("place", "p", "p", 1), "name"), (("place", "p", "z", 1), "name"),
                           (("place", "q", "z", 1), "place"), (("place", "q", "q", 1), "place"), (("place", "q", "p", 3), "done"),
                           (("place", "q", "p", 4), "name"), (("place", "a", "q", 2), "done"), (("gone", "q"), "held"), (("length", "p", "a", 1), "line"),
                           (("length", "z", "y", 1), "line"), (("length", "p", "p", 1), "line"), (("length", "p", "q", 3), "nothing"),
                           (("length", "q", "p", 3), "nothing"), (("length", "q", "p", 5), "done"), (("length", "a", "q", 9), "done")):
            self.check(town, call, word)
        self.assertEqual(town.roads_now(), Roads(("a", "p", "q"), (("a", "q", 9), ("p", "q", 5))))
        # The first place may go, too, as long as another one is left.
        for call, word in ((("person", "x", "p", 0), "done"), (("gone", "p"), "held"), (("move", "person", "x", "q"), "done"), (("gone", "p"), "done"),
                           (("gone", "p"), "name"), (("house", "x", "a", 0, 0), "done"), (("gone", "a"), "held"), (("close", "x"), "done"),
                           (("gone", "a"), "done"), (("leave", "x"), "done"), (("gone", "q"), "held")):
            self.check(town, call, word)
        self.assertEqual(town.roads_now(), Roads(("q",), ()))

    def test_seats(self):
        town = RoadTown("p")
        town.do(("place", "q", "p", 4))
        for call, word in ((("person", "a", "z", 1), "place"), (("person", "a", "p", 1), "done"), (("person", "a", "z", 1), "name"), (("person", "a", "q", 5), "name"),
                           (("house", "a", "z", 2, 7), "place"), (("house", "a", "q", 2, 7), "done"), (("house", "a", "q", 2, 7), "name"), (("leave", "b"), "name"),
                           (("close", "b"), "name"), (("price", "b", 7), "name"), (("move", "person", "b", "z"), "name"), (("move", "house", "b", "q"), "name"),
                           (("reach", "person", "b", 0), "name"), (("reach", "house", "b", 0), "name"), (("move", "person", "a", "z"), "place"),
                           (("move", "house", "a", "z"), "place"), (("move", "person", "a", "p"), "nothing"), (("move", "house", "a", "q"), "nothing"),
                           (("reach", "person", "a", 1), "nothing"), (("reach", "house", "a", 2), "nothing"), (("price", "a", 7), "nothing")):
            self.check(town, call, word)
        self.assertEqual(told(town)[1:], ((("a", "p", 1),), (("a", "q", 2),), (7,)))
        self.assertEqual((town.table_now(), raised(town.both_now)), (Table(("a",), ("a",), ()), (Refused, "unserved")))
        for call in (("reach", "house", "a", 3), ("price", "a", 8), ("house", "b", "p", 0, 0), ("person", "z", "q", 0)):
            self.check(town, call, "done")
        self.assertEqual(told(town)[1:], ((("a", "p", 1), ("z", "q", 0)), (("a", "q", 3), ("b", "p", 0)), (8, 0)))
        self.assertEqual(town.table_now().pairs, (("a", "a"), ("a", "b"), ("z", "a")))
        # A free house is kept, too.
        self.assertEqual(town.both_now(), (("a", "b"), ((0, 1), (8, 1))))
        for call in (("close", "a"), ("leave", "a"), ("move", "house", "b", "q"), ("leave", "z")):
            self.check(town, call, "done")
        self.assertEqual(told(town)[1:], ((), (("b", "q", 0),), (0,)))

    def test_no_calls(self):
        town = RoadTown("p")
        for call in (("place", "q", "p", 4), ("person", "a", "p", 1), ("house", "a", "q", 3, 7)):
            town.do(call)
        for value in NO_CALLS + ANY:
            self.check(town, value, "call")
        for word, many in FORMS.items():
            for value in ANY:
                for at in range(1, many):
                    call = [word, "a", "p", 1, 1][:many]
                    if word in ("move", "reach"):
                        call = [word, "person", "a", "p" if word == "move" else 1]
                    if word in ("place", "length"):
                        call[2] = "q"
                    call[at] = value
                    # A wrong thing is told ahead of all others.
                    if not (isinstance(value, str) and value in ("a", "abcdefgh")) and not (type(value) is int and value >= 0):
                        self.check(town, tuple(call), "call")
                self.check(town, (word,) * many + (value,) * 5, "call")

    def test_call_comes_first(self):
        town = RoadTown("p")
        for call in (("place", "p", "z", 0), ("length", "y", "z", 0), ("person", "a", "z", -1), ("house", "a", "z", 0, -1), ("reach", "person", "z", None),
                     ("move", "nobody", "z", "z")):
            self.check(town, call, "call")


class RowTest(unittest.TestCase):

    def check_papers(self, town):
        """What a town tells beside what it is made of."""
        roads, people, houses, prices = told(town)
        self.assertTrue(is_roads(roads) and is_seats(roads, people) and is_seats(roads, houses))
        table = road_table(roads, people, houses)
        self.assertEqual(town.table_now(), table)
        order = road_order(roads, people, houses, roads.places[0])
        self.assertEqual(town.order_now(), order)
        self.assertIs(is_straight_paper(table, order), True)
        made = town.town_now()
        self.assertIsInstance(made, Town)
        self.assertEqual((made.table_now(), made.prices_now()), (table, prices))
        made.do(("batch", tuple(("close", house) for house in table.houses)))
        self.assertEqual(town.town_now().table_now(), table)
        sheets = [("placed", (roads, people, table), houses), ("straight", table, order)]
        least = least_by_hand(table, prices, table.people)
        if unserved(table):
            self.assertIsNone(least)
            self.assertEqual(raised(town.both_now), (Refused, "unserved"))
        else:
            both = town.both_now()
            self.assertEqual(both, pass_by(table, prices, order))
            self.assertEqual((price_by_hand(table, prices, both[0]), sum(map(value_of, both[1]))), (least, least))
            sheets.append(("meet", (table, prices), both))
        self.assertEqual(town.sheets_now(), tuple(sheets))
        self.assertTrue(all(sheet_holds(sheet) is True for sheet in town.sheets_now()))
        self.assertTrue(is_plain((told(town), town.order_now(), town.sheets_now())))
        return least

    def test_rows_of_calls(self):
        words = {}
        for seed in range(50):
            dice = random.Random(seed)
            town, account, before = RoadTown("p"), Account("p"), []
            least = 0
            for _ in range(40):
                call = random_call(dice)
                before.append((told(town), [*told(town)]))
                word = town.do(call=call)
                self.assertEqual(word, account.do(call), call)
                self.assertEqual(told(town), account.told())
                was, least = least, self.check_papers(town)
                if word == "done" and None not in (was, least):
                    self.check_rise(before[-1][0], call, least - was)
                words[word] = words.get(word, 0) + 1
            self.assertTrue(all(list(one) == other for one, other in before))
        self.assertEqual(set(words), {"done", "name", "place", "held", "line", "nothing"})
        self.assertGreater(min(words.values()), 5)

    def check_rise(self, before, call, rise):
        """A greater length or a lesser reach never lowers the least price, and the other way round."""
        more = 0
        if call[0] == "length":
            more = [call[3] - length for one, other, length in before[0].lines if {one, other} == {call[1], call[2]}][0]
        elif call[0] == "reach":
            seats = before[1] if call[1] == "person" else before[2]
            more = [reach - call[3] for name, _, reach in seats if name == call[2]][0]
        self.assertGreaterEqual(rise * more, 0)

    def test_ringless(self):
        for seed in range(15):
            dice = random.Random(seed)
            town = RoadTown("p")
            for _ in range(60):
                town.do(random_call(dice))
            self.assertEqual(kind_of(town.table_now())[0], "ringless")

    def test_limits(self):
        dice = random.Random(1)
        town = RoadTown("aa")
        for at in range(1, 12):
            self.assertEqual(town.do(("place", "a" + "abcdefghijkl"[at], "a" + "abcdefghijkl"[dice.randrange(at)], dice.randint(1, 10 ** 6 - 1))), "done")
        for name in "abcdefghijkl":
            self.assertEqual(town.do(("person", name, "a" + dice.choice("abcdefghijkl"), dice.randint(0, 10 ** 6 - 1))), "done")
        for name in "abcdefgh":
            self.assertEqual(town.do(("house", name, "a" + dice.choice("abcdefghijkl"), dice.randint(0, 10 ** 6 - 1), dice.randint(0, 10 ** 6 - 1))), "done")
        self.check_papers(town)
        town.do(("house", "big", "aa", 10 ** 7, 10 ** 6 - 1))
        town.do(("close", "a"))
        self.assertIsNotNone(self.check_papers(town))


if __name__ == "__main__":
    unittest.main()
