"""[82] Sheets."""

import itertools
import random
import unittest

from servedall.branches import branch_paper
from servedall.evenness import even_paper
from servedall.facts import facts_of
from servedall.fines import Plan, best_plan
from servedall.groups import objection
from servedall.lines import Lines
from servedall.once import least_once, once_or_tilt
from servedall.openings import least_openings
from servedall.packing import Packed, packed
from servedall.placing import placing
from servedall.prices import is_prices
from servedall.roads import Roads, roads_of
from servedall.seats import is_seats, road_table
from servedall.settling import least_shares
from servedall.sheets import sheet_holds
from servedall.spread import spread
from servedall.tables import Table, is_table, table_of, unserved
from servedall.town import both_of, kind_of
from servedall.waypass import best_ways
from servedall.ways import least_all_in
from support import (ANY, least_by_hand, openings_by_hand, price_by_hand, random_prices, random_roads, random_seats,
                     rings_by_hand, some_tables, subsets, value_of)

RING = table_of("abc", "xyz", [("a", "x"), ("a", "y"), ("b", "y"), ("b", "z"), ("c", "x"), ("c", "z")])
FOUR = table_of("abcd", "wxyz", [("a", "w"), ("a", "x"), ("b", "x"), ("b", "y"), ("c", "y"), ("c", "z"), ("d", "z"), ("d", "w")])
PATH = table_of("ab", "xy", [("a", "x"), ("a", "y"), ("b", "y")])
STAR = table_of("abc", "xy", [("a", "x"), ("b", "x"), ("b", "y"), ("c", "y")])
LONE = Table(("a", "b"), ("x",), (("b", "x"),))
LAND = roads_of(("a", "b", "c", "d"), (("b", "a", 2), ("b", "c", 3), ("b", "d", 4)))
FOLK, SHOPS = (("p", "a", 0), ("q", "c", 1), ("r", "d", 0)), (("x", "b", 2), ("y", "d", 6))
LOST = (LAND, FOLK, table_of("pqr", "x", [("p", "x"), ("r", "x")]))
PAYS = ((1, 1), (2, 1))
HALF = ((1, 2),) * 3
ROUND = (("a", "b", "c"), ("y", "z", "x"))

# For each word some sheets that hold.
SHEETS = [("meet", (PATH, (2, 3)), (("y",), PAYS)), ("once", (FOUR, (1, 2, 3, 4)), (("w", "y"), (1, 0, 3, 0))),
          ("once", (PATH, (1, 5)), (("y",), (-3, 8))), ("least", (PATH, (2, 3)), (("y",), ("enough", PAYS))),
          ("least", (RING, (1, 1, 1)), (("x", "y"), ("enough", HALF))),
          ("least", (RING, (1, 1, 1)), (("x", "y"), ("house", "z", ("enough", ((1, 1),)), ("enough", ((0, 1), (1, 1), (1, 1)))))),
          ("shares", (RING, (1, 1, 1)), (HALF, HALF)), ("packed", (PATH, (2, 3)), Packed(("y",), ((2, 1), (1, 1)))),
          ("right", (PATH, (2, 3), PAYS), None), ("objection", (PATH, (2, 3), ((2, 1), (2, 1))), ("a", "b")),
          ("plan", (PATH, (2, 3), (9, 5)), Plan(("y",), (), PAYS)), ("plan", (PATH, (2, 3), (1, 1)), Plan((), ("a", "b"), ((1, 1), (1, 1)))),
          ("unserved", LONE, "a"), ("straight", PATH, (("a", "b"), ("x", "y"))), ("ring", RING, ROUND), ("odd", RING, ROUND),
          ("ring", FOUR, (("a", "b", "c", "d"), ("x", "y", "z", "w"))), ("even", FOUR, even_paper(FOUR)), ("tilt", STAR, (1, -1, 1)),
          ("ways", (((0, 3), (3, 0)), (2, 2)), ((0, 1), (2, 2))), ("placed", (LAND, FOLK, road_table(LAND, FOLK, SHOPS)), SHOPS),
          ("lost", LOST, placing(*LOST)[1:]), ("reach", (LAND, FOLK, ("a", "b", "d"), 2), (2, ("b", "d"), ("q",)))]

WORDS = ("meet", "once", "least", "shares", "packed", "right", "objection", "plan", "unserved", "straight", "ring", "odd",
         "even", "tilt", "ways", "placed", "lost", "reach")


def parts_of(value):
    """The things within a value, if it has any."""
    if isinstance(value, (tuple, list)):
        return list(value)
    kinds = {Table: ("people", "houses", "pairs"), Roads: ("places", "lines"), Packed: ("lot", "cover"),
             Plan: ("opening", "unserved", "payments")}
    return [getattr(value, name) for name in kinds.get(type(value), ())]


def built(value, parts):
    """The value with other things within."""
    return type(value)(parts) if isinstance(value, (tuple, list)) else type(value)(*parts)


def changed(value, others, moved=True):
    """The value with each part, at each depth, as each other value; also left out, twice, and one further back."""
    yield from others
    parts = parts_of(value)
    for at, part in enumerate(parts):
        for other in changed(part, others, moved):
            yield built(value, parts[:at] + [other] + parts[at + 1:])
        if isinstance(value, tuple) and moved:
            yield tuple(parts[:at] + parts[at + 1:])
            yield tuple(parts[:at] + [part] + parts[at:])
            yield tuple(parts[:at] + parts[at + 1:at + 2] + [part] + parts[at + 2:])
            yield parts


def best_cover_sum(table, worths):
    """The greatest worth of houses apart."""
    apart = [lot for lot in subsets(table.houses) if not any(
        sum((name, house) in table.pairs for house in lot) > 1 for name in table.people)]
    return max(price_by_hand(table, worths, lot) for lot in apart)


def plans_by_hand(table, prices, fines):
    return min(price_by_hand(table, prices, lot) + sum(
        fine for name, fine in zip(table.people, fines) if not any((name, house) in table.pairs for house in lot))
        for lot in subsets(table.houses))


def is_true(fact):
    """Whether a fact is true, by trying all."""
    word, question, answer = fact
    if word in ("ring", "odd"):
        rings = [ring for ring in rings_by_hand(question) if word == "ring" or len(ring[0]) % 2 == 1]
        return answer is bool(rings)
    if word == "served":
        return answer is bool(openings_by_hand(question))
    if word == "once":
        found = any(all(sum((name, house) in question.pairs for house in lot) == 1 for name in question.people)
                    for lot in subsets(question.houses))
        return answer is found
    if word == "ways":
        return answer == least_all_in(*question)
    if word == "reach":
        roads, people, spots, many = question
        def will_do(reach):
            table = road_table(roads, people, [(spot, spot, reach) for spot in spots])
            return any(len(lot) <= many for lot in openings_by_hand(table))
        return will_do(answer) and (answer == 0 or not will_do(answer - 1))
    if word == "placed":
        roads, people, table = question
        seats = [[(house, place, reach) for place in roads.places for reach in range(13)] for house in table.houses]
        return answer is any(road_table(roads, people, houses) == table for houses in itertools.product(*seats))
    table, prices = question[:2]
    if word == "price":
        return answer == least_by_hand(table, prices, table.people)
    if word == "sum":
        return value_of(answer) == sum(map(value_of, least_shares(table, prices)[1]))
    if word == "worth":
        return answer == best_cover_sum(table, prices)
    if word == "plan":
        return answer == plans_by_hand(table, prices, question[2])
    if word == "dues":
        return answer == min(price_by_hand(table, prices, lot) for lot in subsets(table.houses) if all(
            sum((name, house) in table.pairs for house in lot) == 1 for name in table.people))
    paid = [sum(value_of(one) for name, one in zip(table.people, question[2]) if (name, house) in table.pairs) for house in table.houses]
    return word == "right" and answer is all(one <= price for one, price in zip(paid, prices))


class HoldsTest(unittest.TestCase):

    def test_sheets_that_hold(self):
        self.assertEqual({sheet[0] for sheet in SHEETS}, set(WORDS))
        for sheet in SHEETS:
            self.assertIs(sheet_holds(value=sheet), True, sheet)
            self.assertIs(sheet_holds(sheet), True)
            self.assertTrue(all(map(is_true, facts_of(sheet))), sheet)

    def test_other_words(self):
        for word, question, paper in SHEETS:
            for other in WORDS + ("", "Meet", "sheet", "price", "served", "sum", "fact", "holds"):
                held = sheet_holds((other, question, paper))
                self.assertIs(held, other == word or {other, word} == {"ring", "odd"} and len(paper[0]) == 3, (other, word))
            for value in ((word, question), (word, question, paper, None), [word, question, paper], (question, word, paper),
                          (word, paper, question), ((word,), question, paper)):
                self.assertIs(sheet_holds(value), False)

    def test_changed_at_any_place(self):
        others = [None, True, False, 0, 1, 2, -1, "a", "x", "q", "", (), [], ("a",), (1, 1), (0, 1), (2, 2)]
        held = 0
        for word, question, paper in SHEETS:
            for value in changed((question, paper), others):
                sheet = (word, *value) if isinstance(value, tuple) and len(value) == 2 else value
                told = sheet_holds(sheet)
                self.assertIn(told, (True, False))
                if told is True and sheet != (word, question, paper):
                    held += 1
                    self.assertTrue(is_plainly_right(sheet), sheet)
                    self.assertTrue(all(map(is_true, facts_of(sheet))), sheet)
        self.assertGreater(held, 50)

    def test_bools_are_no_numbers(self):
        count = 0
        for sheet in SHEETS:
            for value in changed(sheet, [True], moved=False):
                count += 1
                self.assertIs(sheet_holds(value), False, value)
            for value in changed(sheet, [False], moved=False):
                self.assertIs(sheet_holds(value), False)
        self.assertGreater(count, 500)

    def test_any_value(self):
        for value in ANY:
            self.assertIs(sheet_holds(value), False)
            for word in WORDS:
                for one in ((word, value, value), (word, (value, value), value), (word, (value, value, value), value),
                            (word, (value, value, value, value), value), (value, value, value), (word, value)):
                    empty = word in ("straight", "even") and False
                    self.assertIs(sheet_holds(one), empty)
            for word, question, paper in SHEETS:
                self.assertIs(sheet_holds((word, value, paper)), False)
                self.assertIs(sheet_holds((value, question, paper)), False)
                plain = {"right": [None], "unserved": ["a"], "objection": [("a", "b")],
                         "straight": [(("a", "b"), ("x", "y"))]}.get(word, [])
                self.assertIs(sheet_holds((word, question, value)), any(type(one) is type(value) and one == value for one in plain), (word, value))

    def test_empty_ones(self):
        none = Table((), (), ())
        for sheet in (("meet", (none, ()), ((), ())), ("once", (none, ()), ((), ())), ("least", (none, ()), ((), ("enough", ()))),
                      ("shares", (none, ()), ((), ())), ("packed", (none, ()), Packed((), ())), ("right", (none, (), ()), None),
                      ("plan", (none, (), ()), Plan((), (), ())), ("straight", none, ((), ())), ("even", none, ()),
                      ("ways", (((5,),), (0,)), ((0,), (5,))), ("placed", (Roads(("a",), ()), (), none), ()),
                      ("reach", (Roads(("a",), ()), (), ("a",), 1), (0, (), ()))):
            self.assertIs(sheet_holds(sheet), True, sheet)
        one = Roads(("a",), ())
        for many in (1, 2, 10 ** 30):
            self.assertIs(sheet_holds(("reach", (one, (), ("a",), many), (0, (), ()))), True)
        for many in (0, -1, None, True, (1,)):
            self.assertIs(sheet_holds(("reach", (one, (), ("a",), many), (0, (), ()))), False)
        for sheet in (("unserved", none, "a"), ("ring", none, ((), ())), ("odd", none, ((), ())), ("tilt", none, ()), ("objection", (none, (), ()), ()),
                      ("ways", ((), ()), ((), ())), ("reach", (Roads(("a",), ()), (), (), 1), (0, (), ())), ("lost", (Roads(("a",), ()), (), none), ("x", ()))):
            self.assertIs(sheet_holds(sheet), False, sheet)

    def test_wrong_questions(self):
        order = (("a", "b"), ("x", "y"))
        pays = ((2, 1), (2, 1))
        laid = road_table(LAND, FOLK, SHOPS)
        ways = ((0, 1), (2, 2))
        for sheet in (("meet", (PATH, [2, 3]), (("y",), PAYS)), ("meet", (PATH, (2, 3, 4)), (("y",), PAYS)), ("meet", [PATH, (2, 3)], (("y",), PAYS)),
                      ("meet", (PATH, (2, 3), ()), (("y",), PAYS)), ("meet", PATH, (("y",), PAYS)), ("meet", (PATH, (2, 3)), [("y",), PAYS]),
                      ("meet", (Table(["a", "b"], ("x", "y"), PATH.pairs), (2, 3)), (("y",), PAYS)),
                      ("meet", (Table(("b", "a"), ("x", "y"), PATH.pairs), (2, 3)), (("y",), PAYS)),
                      ("straight", Table(("a", "b"), ("x", "y"), [("a", "x")]), order), ("straight", (PATH,), order),
                      ("right", (PATH, (2, 3), pays), None), ("right", (PATH, (2, 3), PAYS), ()), ("right", (PATH, (2, 3), PAYS), False),
                      ("right", (PATH, (2, 3), ((1, 1), (-1, 1))), None), ("right", (PATH, (2, 3), list(PAYS)), None), ("right", (PATH, (2, 3)), None),
                      ("objection", (PATH, (2, 3), PAYS), ("a", "b")), ("objection", (PATH, (2, 3), ((4, 1), (-1, 1))), ("a",)),
                      ("objection", (PATH, (2, 3), ((4, 1),)), ("a",)), ("objection", (PATH, (2, 3), ((4, 2), (2, 1))), ("a", "b")),
                      ("plan", (PATH, (2, 3), (9,)), Plan(("y",), (), PAYS)), ("plan", (PATH, (2, 3), [9, 5]), Plan(("y",), (), PAYS)),
                      ("plan", (PATH, (2, 3), (9, -5)), Plan(("y",), (), PAYS)), ("plan", (PATH, (2,), (9, 5)), Plan(("y",), (), PAYS)),
                      ("ways", ([(0, 3), (3, 0)], (2, 2)), ways), ("ways", (((0, 3), (3,)), (2, 2)), ways), ("ways", (((0, 3), (3, 0)), (2, 2, 2)), ways),
                      ("ways", (((0, 3), (3, 0)), [2, 2]), ways), ("ways", (((0, 3), (3, 0)), (2, -2)), ways), ("ways", (((0, 3), (3, 0)),), ways),
                      ("placed", (LAND, FOLK[::-1], laid), SHOPS), ("placed", (LAND, FOLK[:2], laid), SHOPS), ("placed", (LAND, list(FOLK), laid), SHOPS),
                      ("placed", (LAND, FOLK, laid), list(SHOPS)), ("placed", (LAND, FOLK, laid), SHOPS[::-1]), ("placed", (LAND, FOLK, laid), ("placed", SHOPS)),
                      ("placed", (Roads(("a", "b"), ()), FOLK[:1], Table(("p",), (), ())), ()), ("placed", (LAND, FOLK), SHOPS),
                      ("lost", LOST, ("lost",) + placing(*LOST)[1:]), ("lost", LOST, list(placing(*LOST)[1:])), ("lost", LOST[:2], placing(*LOST)[1:]),
                      ("reach", (LAND, FOLK, ["a", "b", "d"], 2), (2, ("b", "d"), ("q",))), ("reach", (LAND, FOLK, ("a", "b", "d", "b"), 2), (2, ("b", "d"), ("q",))),
                      ("reach", (LAND, FOLK, ("a", "b", "q"), 2), (2, ("b", "d"), ("q",))), ("reach", (LAND, FOLK, ("a", "b", "d"), True), (2, ("b", "d"), ("q",))),
                      ("reach", (LAND, FOLK, ("a", "b", "d"), 0), (2, ("b", "d"), ("q",))), ("reach", (LAND, FOLK, ("a", "b", "d")), (2, ("b", "d"), ("q",))),
                      ("reach", (LAND, FOLK, (), 2), (0, (), ())), ("least", (PATH, (2, 3)), (["y"], ("enough", PAYS))),
                      ("least", (PATH, (2, 3)), (("y", "y"), ("enough", PAYS))), ("least", (PATH, (2, 3)), (("x",), ("lost", "b"))),
                      ("shares", (PATH, (2, 3)), (((0, 1), (1, 1)), ((0, 1), (2, 1)))), ("shares", (PATH, (2, 3)), ([(0, 1), (1, 1)], PAYS)),
                      ("unserved", LONE, "b"), ("unserved", LONE, ("a",)), ("unserved", PATH, "a"), ("odd", FOUR, SHEETS[15][2])):
            self.assertIs(sheet_holds(sheet), False, sheet)
        self.assertIs(sheet_holds(("shares", (PATH, (2, 3)), (((0, 1), (1, 1)), PAYS))), True)
        # Spots, and houses, may stand in any order where nothing else is said.
        self.assertIs(sheet_holds(("reach", (LAND, FOLK, ("d", "b", "a"), 2), (2, ("b", "d"), ("q",)))), True)


def is_plainly_right(sheet):
    """Whether a sheet has a question of the right form; what it tells is looked at by its facts."""
    word, question, _ = sheet
    if word in ("unserved", "straight", "ring", "odd", "even", "tilt"):
        return is_table(question)
    if word == "ways":
        trips, prices = question
        return all(type(one) is int and one >= 0 for row in trips + (prices,) for one in row) and len({len(row) for row in trips + (prices,)}) == 1
    if word in ("placed", "lost", "reach"):
        return is_seats(question[0], question[1])
    return is_table(question[0]) and is_prices(question[0], question[1]) and not isinstance(question, list)


class MadeTest(unittest.TestCase):

    def sheets_of(self, dice, table, prices):
        """All kinds of sheets of a table that this package makes."""
        kind, paper = kind_of(table)
        yield ({"ringless": "straight"}.get(kind, kind), table, paper)
        if unserved(table):
            yield ("unserved", table, unserved(table)[-1])
        else:
            yield ("least", (table, prices), branch_paper(table, prices))
            yield ("shares", (table, prices), least_shares(table, prices))
            for opening in least_openings(table, prices)[-1:]:
                yield ("least", (table, prices), (opening, branch_paper(table, prices)[1]))
            yield ("right", (table, prices, least_shares(table, prices)[1]), None)
            if kind != "odd":
                yield ("meet", (table, prices), both_of(table, prices, kind))
        if kind != "odd":
            word, made = once_or_tilt(table)
            yield ("tilt", table, made) if word == "tilt" else ("once", (table, prices), least_once(table, prices))
            fines = tuple(dice.randint(0, 3) for _ in table.people)
            yield ("plan", (table, prices, fines), best_plan(table, prices, fines))
            worths = tuple(price if any(house == one for _, one in table.pairs) else 0 for house, price in zip(table.houses, prices))
            yield ("packed", (table, worths), packed(table, worths))
        pays = tuple((dice.randint(0, 3), 1) for _ in table.people)
        group = objection(table, prices, pays)
        yield ("right", (table, prices, pays), None) if group is None else ("objection", (table, prices, pays), group)

    def test_tables(self):
        dice = random.Random(1)
        seen = set()
        for table in itertools.chain(some_tables(2, 120, most=4), some_tables(3, 60, most=4, servable=True), [RING, FOUR, STAR, LONE]):
            for sheet in self.sheets_of(dice, table, random_prices(dice, table)):
                self.assertIs(sheet_holds(sheet), True, sheet)
                self.assertTrue(all(map(is_true, facts_of(sheet))), sheet)
                seen.add(sheet[0])
        self.assertEqual(seen, set(WORDS) - {"ways", "placed", "lost", "reach", "ring"})

    def test_roads(self):
        dice = random.Random(4)
        words = set()
        for _ in range(60):
            roads = random_roads(dice, dice.randint(1, 4), most=3)
            people = random_seats(dice, roads, "pqrs"[:dice.randint(0, 4)], most=2)
            houses = random_seats(dice, roads, "xy"[:dice.randint(0, 2)], most=3)
            table = road_table(roads, people, houses)
            if dice.random() < 0.5 and people and houses:
                table = table_of(table.people, table.houses, [(name, house) for name in table.people for house in table.houses if dice.random() < 0.5])
            word, *paper = placing(roads, people, table)
            sheets = [(word, (roads, people, table), paper[0] if word == "placed" else tuple(paper))]
            spots = tuple(dice.sample(roads.places, dice.randint(1, len(roads.places))))
            many = dice.randint(1, 3)
            sheets.append(("reach", (roads, people, spots, many), spread(roads, people, spots, many)))
            trips = tuple(tuple(dice.randint(0, 2) for _ in range(2)) for _ in range(2))
            sheets.append(("ways", (trips, (dice.randint(0, 2), 1)), None))
            sheets[-1] = ("ways", sheets[-1][1], best_ways(*sheets[-1][1]))
            for sheet in sheets:
                self.assertIs(sheet_holds(sheet), True, sheet)
                self.assertTrue(all(map(is_true, facts_of(sheet))), sheet)
                words.add(sheet[0])
        self.assertEqual(words, {"placed", "lost", "reach", "ways"})

    def test_not_changed(self):
        for sheet in SHEETS:
            lists = list(sheet)
            self.assertIs(sheet_holds(lists), False)
            self.assertEqual(tuple(lists), sheet)
        self.assertEqual(Lines((), (), ()), Lines((), (), ()))


if __name__ == "__main__":
    unittest.main()
