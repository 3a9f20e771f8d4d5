"""The examples of the document, chapter by chapter, as they stand there."""

import doctest
import os
import unittest

README = os.path.join(os.path.dirname(os.path.dirname(os.path.abspath(__file__))), "README.md")

CHAPTERS = {
    "tables": """
    >>> from servedall.tables import grid, left, most_houses, served_by, table_of, turned, unserved
    >>> town = table_of(("ann", "bob", "cy"), ("x", "y"), (("bob", "y"), ("ann", "x"), ("ann", "y")))
    >>> served_by(town, "ann"), unserved(town), grid(town), most_houses(town)
    (('x', 'y'), ('cy',), ((1, 1), (0, 1), (0, 0)), 2)
    >>> left(town, ("ann", "bob"), ("x",)).pairs, turned(town).pairs
    ((('ann', 'x'),), (('x', 'ann'), ('y', 'ann'), ('y', 'bob')))

    >>> from servedall.pieces import pieces, together_with
    >>> from servedall.tabletext import read_table, table_text
    >>> len(pieces(town)), together_with(town, "bob"), table_text(town)
    (2, (('ann', 'bob'), ('x', 'y')), 'houses x y\\nann x y\\nbob y\\ncy')
    >>> read_table("houses\\ncy") == left(town, ("cy",), ())
    True
    """,
    "prices": """
    >>> from servedall.openings import check_meet, gap, gap_parts, least_openings, least_price
    >>> from servedall.tables import table_of
    >>> town = table_of(("p", "q", "r"), ("x", "y", "z"), (("p", "x"), ("p", "z"), ("q", "x"), ("q", "y"), ("r", "y"), ("r", "z")))
    >>> pays = ((1, 1), (3, 2), (1, 2))
    >>> gap(town, (3, 2, 4), ("x", "y"), pays), gap_parts(town, (3, 2, 4), ("x", "y"), pays)
    ((2, 1), (((1, 2), (0, 1)), ((0, 1), (3, 2), (0, 1))))
    >>> least_price(town, (3, 2, 4)), least_openings(town, (3, 2, 4)), check_meet(town, (3, 2, 4), ("x", "y"), pays)
    (5, (('x', 'y'),), False)

    >>> from servedall.needed import dearest, needed_houses, useful_houses
    >>> from servedall.paying import is_stuck, paid_in_turn, wholly_paid
    >>> useful_houses(town, (3, 2, 4)), needed_houses(town, (3, 2, 4)), dearest(town, (3, 2, 4), "z")
    (('x', 'y'), ('x', 'y'), 3)
    >>> pays = paid_in_turn(town, (3, 2, 4), ("r", "p", "q"))
    >>> pays, wholly_paid(town, (3, 2, 4), pays), is_stuck(town, (3, 2, 4), pays)
    (((2, 1), (0, 1), (2, 1)), ('y', 'z'), True)
    """,
    "rings": """
    >>> from servedall.loops import chords, cut, cutting
    >>> from servedall.rings import least_form, turned_ring
    >>> from servedall.tables import table_of
    >>> from servedall.ties import odd_ring, ties
    >>> ring = table_of(tuple("abc"), tuple("xyz"), (("a", "x"), ("a", "y"), ("b", "y"), ("b", "z"), ("c", "x"), ("c", "z")))
    >>> more = table_of(tuple("abc"), tuple("xyz"), ring.pairs + (("a", "z"),))
    >>> least_form(odd_ring(ring)), odd_ring(more), turned_ring((("a", "b", "c"), ("y", "z", "x")))
    ((('a', 'b', 'c'), ('y', 'z', 'x')), None, (('y', 'z', 'x'), ('b', 'c', 'a')))
    >>> ties(more, ("x", "y", "z")), ties(more, ("x", "z"))
    ((('x', 'z', 'c'), ('y', 'z', 'b')), (('x', 'z', 'a'),))
    >>> loop = (("a", "b", "c"), ("y", "z", "x"))
    >>> chords(more, loop), cut(loop, (0, 1))
    (((0, 1),), ((('a', 'b'), ('y', 'z')), (('c', 'a'), ('x', 'z'))))
    >>> cutting(more, loop)
    ('cut', (0, 1), ('whole',), ('whole',))

    >>> from servedall.evenness import check_even, unpainted_lots
    >>> from servedall.painting import is_paint, loose_houses, painted_back
    >>> is_paint(more, ("z",)), is_paint(more, ("y",)), is_paint(ring, ("x", "y")), loose_houses(more, ("x", "y", "z"))
    (True, False, False, ('x', 'y'))
    >>> painted_back(more, ("x", "y", "z")), painted_back(more, ("y", "x", "z"))
    (('x', 'y'), ('x', 'y'))
    >>> check_even(more, ((("x", "y", "z"), ("z",)),)), unpainted_lots(ring), unpainted_lots(more)
    (True, (('x', 'y', 'z'),), ())
    """,
    "shares": """
    >>> from servedall.lines import first_lines, gain_at, hold, turned_on, values_of
    >>> from servedall.shares import share_gaps, is_shares, supplies
    >>> from servedall.tables import table_of
    >>> ring = table_of(("a", "b", "c"), ("x", "y", "z"), (("a", "x"), ("a", "y"), ("b", "y"), ("b", "z"), ("c", "x"), ("c", "z")))
    >>> lines = turned_on(first_lines(ring, (1, 1, 1)), 0, 0)
    >>> lines.basis, values_of(lines), lines.last[-1], hold(lines, ((1, 1),) + ((0, 1),) * 4 + ((1, 1),))
    ((0, 4, 5), ((1, 1), (0, 1), (0, 1), (0, 1), (0, 1), (1, 1)), (1, 1), True)
    >>> half = ((1, 2),) * 3
    >>> is_shares(ring, half), share_gaps(ring, (1, 1, 2), half, half)
    (True, (((0, 1), (0, 1), (1, 2)), ((0, 1), (0, 1), (0, 1))))

    >>> from servedall.settling import least_shares, settle_steps
    >>> least_shares(ring, (1, 1, 1)), settle_steps(ring, (1, 1, 1))[-1]
    ((((1, 2), (1, 2), (1, 2)), ((1, 2), (1, 2), (1, 2))), (0, 1, 2))

    >>> from servedall.changing import cost_line
    >>> from servedall.corners import all_corners
    >>> from servedall.means import check_mean
    >>> len(all_corners(ring)), all_corners(ring)[3], cost_line(ring, (9, 1, 1), "x")
    (4, ((1, 2), (1, 2), (1, 2)), (((0, 1), (1, 1), (1, 2)), ((2, 1), (2, 1), (0, 1))))
    >>> check_mean(ring, ((1, 1), (1, 1), (1, 1)), (((1, 1), half),))
    True
    """,
    "middle": """
    >>> from servedall.copies import check_coats, copied, seen
    >>> from servedall.tables import table_of
    >>> ring = table_of(("a", "b", "c"), ("x", "y", "z"), (("a", "x"), ("a", "y"), ("b", "y"), ("b", "z"), ("c", "x"), ("c", "z")))
    >>> path = table_of(("a", "b", "c"), ("x", "y", "z"), (("a", "x"), ("a", "y"), ("b", "y"), ("b", "z"), ("c", "z")))
    >>> copied(path, (0, 1, 2))[1], copied(path, (1, 0, 1))[0].pairs
    (('y', 'z', 'z'), (('a', 'aa'), ('b', 'ab'), ('c', 'ab')))
    >>> seen(path, (0, 1, 0)), check_coats(ring, 2, (0, 1, 0))
    ((2, 2, 1), False)

    >>> from servedall.dealing import check_deal
    >>> check_deal(path, ((1, 2), (1, 2), (1, 1)), (("y", "z"), ("x", "z"))), check_deal(ring, ((1, 2),) * 3, (("x", "y"), ("y", "z")))
    (True, False)

    >>> from servedall.middle import Meets, best, check_meets, meets
    >>> meets(path, (2, 3, 4)), meets(ring, (1, 1, 1)), meets(ring, (1, 1, 2))
    (True, False, True)
    >>> check_meets(path, (2, 3, 4), Meets(("x", "z"), ((2, 1), (1, 1), (3, 1)))), best(path, (2, 3, 4)).opening
    (True, ('x', 'z'))

    >>> from servedall.fines import Plan, best_plan, least_plan_price, parting_fines, plan_price
    >>> plan_price(ring, (1, 1, 3), (5, 1, 1), ("x",)), least_plan_price(ring, (1, 1, 1), (1, 1, 1)), parting_fines(ring)
    (2, 2, ((1, 1, 1), (1, 1, 1)))
    >>> best_plan(path, (2, 4, 4), (9, 1, 1)) == Plan(("x",), ("b", "c"), ((2, 1), (1, 1), (1, 1)))
    True

    >>> from servedall.groups import can_share, check_objection, lacking, objection, shared, spans
    >>> can_share(ring, (1, 1, 1)), lacking(ring, (1, 1, 1)), check_objection(ring, (1, 1, 1), ((2, 3), (2, 3), (2, 3)), ("a", "b"))
    (False, (1, 2), True)
    >>> objection(path, (2, 3, 4), ((2, 1), (1, 1), (3, 1))), spans(path, (2, 3, 4))
    (None, ((2, 2), (0, 3), (3, 4)))
    """,
    "passes": """
    >>> from servedall.orders import bent_corner, is_sorted, worth_of
    >>> from servedall.passes import lead_of, pass_by, ring_paper
    >>> from servedall.tables import table_of
    >>> row = table_of(["a", "b", "c"], ["h", "i", "j"], [("a", "h"), ("a", "i"), ("b", "i"), ("b", "j"), ("c", "j")])
    >>> order = (("a", "b", "c"), ("h", "i", "j"))
    >>> pass_by(row, (2, 3, 2), order), lead_of(row, (2, 3, 2), order, "b")
    ((('h', 'j'), ((2, 1), (1, 1), (1, 1))), ('i', 'j'))
    >>> worth_of(row, order), is_sorted(row, order), bent_corner(row, order)
    ((1, 1, 0, 0, 1, 0, 1, 0, 1), False, None)
    >>> ring = table_of(["a", "b", "c"], ["h", "i", "j"], [("a", "h"), ("a", "i"), ("b", "i"), ("b", "j"), ("c", "h"), ("c", "j")])
    >>> bent_corner(ring, order), is_sorted(ring, order), ring_paper(ring)[0]
    (('a', 'c', 'h', 'i'), False, 'ring')
    """,
    "roads": """
    >>> from servedall.heights import road_order
    >>> from servedall.roads import branches, meeting, roads_of, way_places
    >>> from servedall.seats import districts, road_table
    >>> land = roads_of(("a", "b", "c", "d"), (("b", "a", 2), ("b", "c", 3), ("b", "d", 4)))
    >>> way_places(land, "a", "d"), meeting(land, "a", "c", "d"), branches(land, "b")
    (('a', 'b', 'd'), 'b', (('a', ('a',)), ('c', ('c',)), ('d', ('d',))))
    >>> folk, shops = (("p", "a", 0), ("q", "c", 1), ("r", "d", 0)), (("x", "b", 2), ("y", "d", 6))
    >>> road_table(land, folk, shops).pairs, districts(land, shops)
    ((('p', 'x'), ('p', 'y'), ('q', 'x'), ('q', 'y'), ('r', 'y')), (('x', ('a', 'b', 'c')), ('y', ('d',))))
    >>> road_order(land, folk, shops, "a")
    (('r', 'q', 'p'), ('x', 'y'))

    >>> from servedall.middles import branch_counts, centres, middles
    >>> from servedall.placing import placing
    >>> from servedall.spread import check_spread, spread
    >>> middles(land, folk), centres(land, folk), branch_counts(land, folk, "a")
    (('b',), ('b',), (('b', 2),))
    >>> spread(land, folk, ("a", "b", "d"), 2)[:2], check_spread(land, folk, ("a", "b", "d"), 2, (2, ("b", "d"), ("q",)))
    ((2, ('b', 'd')), True)
    >>> from servedall.tables import table_of
    >>> placing(land, folk, table_of(("p", "q", "r"), ("x",), (("p", "x"), ("r", "x"))))[:2]
    ('lost', 'x')
    """,
    "ways": """
    >>> from servedall.wayrows import forth_opening, least_ways, way_table
    >>> from servedall.ways import all_in, check_ways, least_all_in, nearest_open, taken_by
    >>> trips, prices = ((0, 3), (3, 0)), (2, 2)
    >>> all_in(trips, prices, (0,)), least_all_in(trips, prices), nearest_open(trips, (1,)), taken_by(trips, (4, 2), 1)
    (5, 4, (1, 1), 3)
    >>> way_table(trips, prices)[0].houses, way_table(trips, prices)[1], forth_opening(trips, (0,)), least_ways(trips)
    (('ha', 'hb', 'waa', 'wba'), (2, 2, 3, 3), ('ha', 'wba'), 0)
    >>> check_ways(trips, prices, ((0, 1), (2, 2))), check_ways(trips, prices, ((0,), (2, 2)))
    (True, False)
    """,
    "kin": """
    >>> from servedall.packing import Packed, apart_lots, check_packed, greatest_worth, slack_table
    >>> from servedall.tables import table_of
    >>> ring = table_of(tuple("abc"), tuple("xyz"), (("a", "x"), ("a", "y"), ("b", "y"), ("b", "z"), ("c", "x"), ("c", "z")))
    >>> path = table_of(tuple("abc"), tuple("xyz"), (("a", "x"), ("a", "y"), ("b", "y"), ("b", "z"), ("c", "z")))
    >>> apart_lots(path), greatest_worth(path, (2, 3, 2)), greatest_worth(ring, (1, 1, 1))
    (((), ('x',), ('x', 'z'), ('y',), ('z',)), 4, 1)
    >>> check_packed(path, (2, 3, 2), Packed(("x", "z"), ((2, 1), (1, 1), (1, 1))))
    True
    >>> slack_table(path, (2, 3, 2))[1]
    (6, 13, 14, 8, 8, 8)

    >>> from servedall.once import all_once, are_dues, check_once, check_tilt, once_or_tilt
    >>> all_once(path), check_tilt(path, (0, 0, 1)), once_or_tilt(table_of(tuple("ab"), tuple("xy"), (("a", "x"), ("b", "x"), ("b", "y"))))
    ((('x', 'z'),), False, ('once', ('x',)))
    >>> star = table_of(tuple("abc"), tuple("xy"), (("a", "x"), ("b", "x"), ("b", "y"), ("c", "y")))
    >>> check_tilt(star, (1, -1, 1)), once_or_tilt(star)[0]
    (True, 'tilt')
    >>> are_dues(path, (2, 1, 4), (2, -1, 5)), check_once(path, (2, 1, 4), ("x", "z"), (2, -1, 5))
    (True, True)

    >>> from servedall.pairs import four_numbers, meet_all, sides_or_ring
    >>> from servedall.swaps import find_swap, meeting_people, swapped
    >>> row = table_of(tuple("abcd"), tuple("xyz"), (("a", "x"), ("b", "x"), ("b", "y"), ("c", "y"), ("c", "z"), ("d", "z")))
    >>> four_numbers(row), four_numbers(ring), meet_all(row, ("a", "d"))
    ((2, 2, 2, 2), (1, 2, 2, 1), False)
    >>> find_swap(row, ("y",)) in ((("a", "b", "c", "d"), ("x", "y", "z")), (("d", "c", "b", "a"), ("z", "y", "x")))
    True
    >>> swapped(("y",), (("a", "b", "c", "d"), ("x", "y", "z"))), find_swap(ring, ("x",))
    (('x', 'z'), None)
    >>> sides_or_ring(row)[0], meet_all(row, meeting_people(row, ("x", "z")))
    ('sides', True)
    """,
    "bounds": """
    >>> from servedall.apart import distance, dot_table, ring_table
    >>> from servedall.quick import quick_opening, quick_payments
    >>> from servedall.thinning import by_shares, raised_opening
    >>> five = ring_table(5)
    >>> quick_opening(five, (1, 1, 1, 1, 1)), quick_payments(five, (1, 1, 1, 1, 1))[4]
    (('a', 'c', 'd'), (2, 3))
    >>> raised_opening(five, (1, 1, 1, 1, 1)), by_shares(five, ((1, 2),) * 5)
    (('a', 'c', 'e'), ('a', 'b', 'c', 'd', 'e'))

    >>> from servedall.branches import branch_paper, check_branches
    >>> from servedall.shrinking import shrink_all, shrinks, shrunk
    >>> from servedall.tables import table_of
    >>> distance(five, (1, 1, 1, 1, 1), 3), check_branches(five, (1,) * 5, ("a", "c", "d"), ("enough", ((1, 2),) * 5))
    ((6, 5), True)
    >>> opening, tree = branch_paper(five, (1, 1, 1, 1, 1))
    >>> len(opening), check_branches(five, (1,) * 5, opening, tree), len(dot_table(2).pairs)
    (3, True, 6)
    >>> lane = table_of(("ann", "bob"), ("x", "y"), (("ann", "x"), ("ann", "y"), ("bob", "y")))
    >>> shrinks(lane, (2, 2)), shrink_all(lane, (2, 2))
    ((('forced', 'bob', 'y'), ('house', 'x', 'y'), ('person', 'ann', 'bob')), (('forced', 'bob', 'y'), ('idle', 'x')))
    >>> shrunk(lane, (2, 2), (("house", "x", "y"),))[1].houses
    ('y',)
    """,
    "kept": """
    >>> from servedall.coming import rise_for, steady_opening, steady_payments, worth
    >>> from servedall.tables import table_of
    >>> path = table_of(("a", "b", "c"), ("x", "y", "z"), (("a", "x"), ("a", "y"), ("b", "y"), ("b", "z"), ("c", "z")))
    >>> rise_for(path, (2, 3, 4), ("y",)), worth(path, (2, 3, 4), ("a", "c")), worth(path, (2, 3, 4), ("b",))
    (1, 3, 0)
    >>> steady_opening(path, (2, 3, 4), ("x", "z"))
    ((0, 3), (2, None), (0, None))
    >>> steady_payments(path, (2, 3, 4), ((2, 1), (1, 1), (3, 1)))
    ((2, 2), (3, None), (4, 4))

    >>> from servedall.kept import Kept
    >>> kept = Kept(path, (2, 3, 4))
    >>> kept.opening, kept.price, kept.set_price("y", 1), kept.opening, kept.come("d", ["x"])
    (('x', 'z'), 6, -1, ('y', 'z'), 1)
    >>> kept.leave("c"), kept.opening, kept.payments[2:], kept.prices
    (-3, ('x', 'y'), ((2, 1),), (2, 1, 4))
    """,
    "town": """
    >>> from servedall.town import Town
    >>> from servedall.townruns import check_whole_paper, run, whole_paper
    >>> town = Town()
    >>> town.do(("batch", (("house", "h", 2), ("house", "i", 3), ("person", "a", ("h", "i")), ("person", "b", ("i",)))))
    'done'
    >>> town.kind_now()[0], town.opening_now(), town.gap_now(), town.do(("leave", "c")), town.do(("serve", "a", "i", True))
    ('ringless', ('i',), (0, 1), 'name', 'nothing')
    >>> town.do(("serve", "b", "i", False)), town.unserved_now(), town.do(("undo",)), town.depth()
    ('done', ('b',), 'done', (1, 1))
    >>> run([("house", "h", 4), ("person", "a", ("h",)), "close"])[1:]
    ((('person', 'a', ('h',)), 'done', 'ringless', (4, (4, 1))), ('close', 'call', 'ringless', (4, (4, 1))))
    >>> check_whole_paper(town.table_now(), (2, 3), whole_paper(town.table_now(), (2, 3)))
    True
    """,
    "sheets": """
    >>> from servedall.facts import facts_of, told_by
    >>> from servedall.sheets import sheet_holds
    >>> from servedall.tables import table_of
    >>> path = table_of(("a", "b"), ("x", "y"), (("a", "x"), ("a", "y"), ("b", "y")))
    >>> sheet = ("least", (path, (2, 3)), (("y",), ("enough", ((1, 1), (2, 1)))))
    >>> sheet_holds(sheet), told_by(facts_of(sheet) + (("ring", path, False),), "sum", (path, (2, 3)))
    (True, (3, 1))

    >>> from servedall.audit import audit
    >>> from servedall.desk import Desk
    >>> desk = Desk()
    >>> desk.say("all house h 2; house i 3; person a h i; person b i"), desk.say("least"), desk.say("serve b i off"), desk.say("gap")
    (('did', 'done'), ('told', 3), ('did', 'done'), ('refused', 'unserved'))
    >>> audit(desk.record()), audit((("least", ("told", 0), ()),))
    (None, 0)
    """,
}


class ExamplesTest(unittest.TestCase):

    def check(self, name, text):
        told = []
        test = doctest.DocTestParser().get_doctest(text, {}, name, None, 0)
        failed, tried = doctest.DocTestRunner(verbose=False).run(test, out=told.append)
        self.assertEqual((failed, tried > 0), (0, True), "".join(told))

    def test_chapters(self):
        for name, text in CHAPTERS.items():
            self.check(name, text)

    def test_readme(self):
        with open(README, encoding="utf-8") as file:
            self.check("README", file.read())


if __name__ == "__main__":
    unittest.main()
