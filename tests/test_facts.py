"""[83] Facts."""

import itertools
import random
import unittest

from servedall import facts as f
from servedall.branches import branch_paper
from servedall.evenness import even_paper
from servedall.fines import Plan, best_plan
from servedall.groups import objection
from servedall.once import least_once, once_or_tilt
from servedall.openings import least_price
from servedall.packing import packed
from servedall.placing import placing
from servedall.roads import roads_of
from servedall.seats import road_table
from servedall.settling import least_shares
from servedall.sheets import sheet_holds
from servedall.spread import spread
from servedall.tables import Table, table_of, unserved
from servedall.town import both_of, kind_of
from servedall.waypass import best_ways
from support import ANY, check_call, is_plain, openings_by_hand, random_prices, rings_by_hand, some_tables, value_of

RING = table_of("abc", "xyz", [("a", "x"), ("a", "y"), ("b", "y"), ("b", "z"), ("c", "x"), ("c", "z")])
FOUR = table_of("abcd", "wxyz", [("a", "w"), ("a", "x"), ("b", "x"), ("b", "y"), ("c", "y"), ("c", "z"), ("d", "z"), ("d", "w")])
PATH = table_of("ab", "xy", [("a", "x"), ("a", "y"), ("b", "y")])
LONE = Table(("a", "b"), ("x",), (("b", "x"),))
EMPTY = Table((), (), ())
LAND = roads_of(("a", "b", "c", "d"), (("b", "a", 2), ("b", "c", 3), ("b", "d", 4)))
FOLK, SHOPS = (("p", "a", 0), ("q", "c", 1), ("r", "d", 0)), (("x", "b", 2), ("y", "d", 6))
LAID = road_table(LAND, FOLK, SHOPS)
PAYS = ((1, 1), (2, 1))


class FactsTest(unittest.TestCase):

    def check(self, sheet, *facts):
        self.assertIs(sheet_holds(sheet), True, sheet)
        self.assertEqual(check_call(self, f.facts_of, sheet=sheet), facts)

    def test_example(self):
        sheet = ("least", (PATH, (2, 3)), (("y",), ("enough", PAYS)))
        self.assertEqual((sheet_holds(sheet), f.told_by(f.facts_of(sheet) + (("ring", PATH, False),), "sum", (PATH, (2, 3)))),
                         (True, (3, 1)))

    def test_cases(self):
        case = (PATH, (2, 3))
        self.check(("meet", case, (("y",), PAYS)), ("served", PATH, True), ("price", case, 3), ("sum", case, (3, 1)))
        self.check(("least", case, (("y",), ("enough", PAYS))), ("served", PATH, True), ("price", case, 3))
        half = ((1, 2),) * 3
        ones = (RING, (1, 1, 1))
        self.check(("shares", ones, (half, half)), ("served", RING, True), ("sum", ones, (3, 2)))
        self.check(("least", ones, (("x", "y"), ("enough", half))), ("served", RING, True), ("price", ones, 2))
        none = (EMPTY, ())
        self.check(("meet", none, ((), ())), ("served", EMPTY, True), ("price", none, 0), ("sum", none, (0, 1)))
        self.check(("once", (FOUR, (1, 2, 3, 4)), (("w", "y"), (1, 0, 3, 0))), ("once", FOUR, True), ("dues", (FOUR, (1, 2, 3, 4)), 4))
        self.check(("once", (PATH, (1, 5)), (("y",), (-3, 8))), ("once", PATH, True), ("dues", (PATH, (1, 5)), 5))
        self.check(("packed", (PATH, (2, 3)), packed(PATH, (2, 3))), ("worth", (PATH, (2, 3)), 3))
        self.check(("packed", (LONE, (0,)), packed(LONE, (0,))), ("worth", (LONE, (0,)), 0))

    def test_tables(self):
        self.check(("unserved", LONE, "a"), ("served", LONE, False))
        self.check(("straight", PATH, (("a", "b"), ("x", "y"))), ("ring", PATH, False), ("odd", PATH, False))
        ring = (("a", "b", "c"), ("y", "z", "x"))
        self.check(("ring", RING, ring), ("ring", RING, True), ("odd", RING, True))
        self.check(("odd", RING, ring), ("ring", RING, True), ("odd", RING, True))
        self.check(("ring", FOUR, (("a", "b", "c", "d"), ("x", "y", "z", "w"))), ("ring", FOUR, True))
        self.check(("even", FOUR, even_paper(FOUR)), ("odd", FOUR, False))
        star = table_of("abc", "xy", [("a", "x"), ("b", "x"), ("b", "y"), ("c", "y")])
        self.check(("tilt", star, (1, -1, 1)), ("once", star, False))

    def test_questions(self):
        right, wrong = (PATH, (2, 3), PAYS), (PATH, (2, 3), ((2, 1), (2, 1)))
        self.check(("right", right, None), ("right", right, True))
        self.check(("objection", wrong, ("a", "b")), ("right", wrong, False))
        fined = (PATH, (2, 3), (1, 1))
        self.check(("plan", fined, Plan((), ("a", "b"), ((1, 1), (1, 1)))), ("plan", fined, 2))
        fined = (PATH, (2, 3), (9, 5))
        self.check(("plan", fined, Plan(("y",), (), PAYS)), ("plan", fined, 3))
        ways = (((0, 3), (3, 0)), (2, 2))
        self.check(("ways", ways, ((0, 1), (2, 2))), ("ways", ways, 4))
        placed = (LAND, FOLK, LAID)
        self.check(("placed", placed, SHOPS), ("placed", placed, True), ("ring", LAID, False), ("odd", LAID, False))
        lost = (LAND, FOLK, table_of("pqr", "x", [("p", "x"), ("r", "x")]))
        self.check(("lost", lost, placing(*lost)[1:]), ("placed", lost, False))
        reach = (LAND, FOLK, ("a", "b", "d"), 2)
        self.check(("reach", reach, (2, ("b", "d"), ("q",))), ("reach", reach, 2))


class FollowTest(unittest.TestCase):

    def check(self, facts, *more):
        """All facts of some, in whatever order they stand."""
        for some in itertools.permutations(facts):
            found = check_call(self, f.all_facts, facts=some)
            self.assertEqual(len(found), len(facts) + len(more), found)
            for fact in itertools.chain(facts, more):
                self.assertEqual(found.count(fact), 1, (found, fact))
            self.assertEqual(f.all_facts(list(some) + list(some)), f.all_facts(some + some))
            self.assertEqual(len(f.all_facts(some + some)), len(found))
            for word, question, answer in found:
                self.assertEqual(check_call(self, f.told_by, facts=some, word=word, question=question), answer)

    def test_rings(self):
        self.check([("ring", PATH, False)], ("odd", PATH, False))
        self.check([("odd", RING, True)], ("ring", RING, True))
        self.check([("odd", FOUR, False)])
        self.check([("ring", FOUR, True)])
        self.check([("ring", FOUR, True), ("odd", FOUR, False)])
        self.check([])

    def test_cases(self):
        case, other = (PATH, (2, 3)), (PATH, (1, 1))
        self.check([("price", case, 3)], ("served", PATH, True))
        self.check([("sum", case, (3, 1))], ("served", PATH, True))
        self.check([("price", case, 3), ("odd", PATH, False)], ("served", PATH, True), ("sum", case, (3, 1)))
        self.check([("sum", case, (3, 1)), ("odd", PATH, False)], ("served", PATH, True), ("price", case, 3))
        self.check([("price", case, 3), ("ring", PATH, False)], ("odd", PATH, False), ("served", PATH, True), ("sum", case, (3, 1)))
        self.check([("price", case, 3), ("sum", case, (3, 1))], ("served", PATH, True))
        self.check([("price", case, 3), ("sum", other, (1, 1)), ("ring", PATH, False)],
                   ("odd", PATH, False), ("served", PATH, True), ("sum", case, (3, 1)), ("price", other, 1))
        self.check([("price", case, 3), ("odd", FOUR, False)], ("served", PATH, True))
        self.check([("price", (EMPTY, ()), 0), ("odd", EMPTY, False)], ("served", EMPTY, True), ("sum", (EMPTY, ()), (0, 1)))

    def test_a_price_and_another_sum(self):
        ones, twos = (RING, (1, 1, 1)), (RING, (1, 1, 2))
        self.check([("price", ones, 2), ("sum", ones, (3, 2))], ("served", RING, True), ("odd", RING, True), ("ring", RING, True))
        self.check([("price", twos, 2), ("sum", twos, (2, 1))], ("served", RING, True))
        self.check([("price", twos, 2), ("sum", ones, (3, 2))], ("served", RING, True))
        self.check([("price", ones, 2), ("odd", RING, True)], ("served", RING, True), ("ring", RING, True))

    def test_nothing_follows(self):
        self.check([("served", LONE, False), ("once", PATH, False), ("once", FOUR, True), ("right", (PATH, (2, 3), PAYS), True)])
        case, fined = (PATH, (2, 3)), (PATH, (2, 3), (1, 1))
        self.check([("dues", case, 3), ("worth", case, 3), ("plan", fined, 2), ("odd", PATH, False)])
        self.check([("ways", (((0,),), (1,)), 1), ("reach", (LAND, FOLK, ("a",), 1), 6), ("placed", (LAND, FOLK, LAID), True)])

    def test_told_by(self):
        facts = (("price", (PATH, (2, 3)), 3), ("ring", PATH, False))
        self.assertEqual((f.told_by(facts, "ring", PATH), f.told_by(facts, "odd", PATH), f.told_by(facts, "served", PATH)),
                         (False, False, True))
        for word, question in (("ring", RING), ("rings", PATH), ("price", (PATH, (2, 4))), ("price", PATH), ("sum", [PATH, (2, 3)]),
                               ("price", (PATH, [2, 3])), (["ring"], PATH), (None, None), ("once", PATH)):
            self.assertIsNone(f.told_by(facts, word, question))
        for value in ANY:
            self.assertIsNone(f.told_by(facts, value, PATH))
            self.assertIsNone(f.told_by(facts, "ring", value))
            self.assertIsNone(f.told_by(facts, "price", (PATH, value)))
            self.assertIsNone(f.told_by((), value, value))

    def test_lists(self):
        facts = [("ring", PATH, False), ("ring", PATH, False)]
        self.assertEqual(sorted(f.all_facts(facts), key=str), sorted([("ring", PATH, False), ("odd", PATH, False)], key=str))
        self.assertEqual(len(facts), 2)
        self.assertTrue(is_plain(f.all_facts(facts)))


class TrueTest(unittest.TestCase):
    """All facts of sheets that hold are true."""

    def sheets_of(self, table, prices):
        dice = random.Random(len(table.pairs))
        kind, paper = kind_of(table)
        yield ({"ringless": "straight"}.get(kind, kind), table, paper)
        if unserved(table):
            yield ("unserved", table, unserved(table)[0])
        else:
            yield ("least", (table, prices), branch_paper(table, prices))
            yield ("shares", (table, prices), least_shares(table, prices))
            if kind != "odd":
                yield ("meet", (table, prices), both_of(table, prices, kind))
        if kind != "odd":
            word, made = once_or_tilt(table)
            yield ("tilt", table, made) if word == "tilt" else ("once", (table, prices), least_once(table, prices))
            fines = tuple(dice.randint(0, 3) for _ in table.people)
            yield ("plan", (table, prices, fines), best_plan(table, prices, fines))
        pays = tuple((dice.randint(0, 3), 1) for _ in table.people)
        group = objection(table, prices, pays)
        yield ("right", (table, prices, pays), None) if group is None else ("objection", (table, prices, pays), group)

    def test_facts_of_sheets(self):
        dice = random.Random(1)
        for table in some_tables(2, 120, most=4):
            prices = random_prices(dice, table)
            facts = []
            for sheet in self.sheets_of(table, prices):
                self.assertIs(sheet_holds(sheet), True, sheet)
                facts += f.facts_of(sheet)
            told = {(fact[0], index): fact[2] for fact in f.all_facts(facts)
                    for index, question in enumerate((table, (table, prices))) if fact[1] == question}
            sizes = [len(people) % 2 for people, _ in rings_by_hand(table)]
            self.assertIs(told[("odd", 0)], 1 in sizes)
            self.assertIs(told.get(("ring", 0), bool(sizes)), bool(sizes))
            self.assertIs(told[("served", 0)], openings_by_hand(table) != [])
            if told[("served", 0)]:
                self.assertEqual(told[("price", 1)], least_price(table, prices))
                self.assertEqual(value_of(told[("sum", 1)]), sum(map(value_of, least_shares(table, prices)[1])))

    def test_ways_and_reach(self):
        trips, prices = ((0, 3, 1), (3, 0, 1)), (2, 2, 2)
        ways = ("ways", (trips, prices), best_ways(trips, prices))
        reach = ("reach", (LAND, FOLK, ("a", "c"), 1), spread(LAND, FOLK, ("a", "c"), 1))
        for sheet in (ways, reach):
            self.assertIs(sheet_holds(sheet), True)
            self.assertEqual(len(f.facts_of(sheet)), 1)
        self.assertEqual((f.facts_of(ways)[0][2], f.facts_of(reach)[0][2]), (4, 6))


if __name__ == "__main__":
    unittest.main()
