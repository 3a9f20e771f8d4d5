"""The names of the interface, each defined in its own file with its arguments."""

import ast
import importlib
import inspect
import itertools
import os
import unittest

from servedall.fines import Plan
from servedall.lines import Lines
from servedall.middle import Meets
from servedall.packing import Packed
from servedall.parting import Parts
from servedall.roads import Roads
from servedall.tables import Table
from support import ANY

FOLDER = os.path.join(os.path.dirname(os.path.dirname(os.path.abspath(__file__))), "servedall")
CALLS = {
    "fractions": """need_fraction(value) is_fraction(value) fraction(top, bottom) whole(number) plus(one, other)
        minus(one, other) times(one, other) over(one, other) negative(one) sign_of(one) compared(one, other)
        floor_of(one) ceiling_of(one) total_of(some) least_of(some) greatest_of(some) fraction_text(one)
        read_fraction(value)""",
    "tables": """Table(people, houses, pairs) need_table(value) is_table(value) table_of(people, houses, pairs)
        served_by(table, person) serves(table, house) unserved(table) is_servable(table) most_houses(table)
        most_people(table) grid(table) left(table, people, houses) without(table, people, houses) turned(table)""",
    "tabletext": "table_text(table) read_table(value)",
    "prices": """need_prices(table, value) is_prices(table, value) price_at(table, prices, house)
        repriced(table, prices, house, price) sum_of(payments) asked_of(table, payments, house)
        spares(table, prices, payments) need_payments(table, prices, value) right_payments(table, prices, value)""",
    "openings": """not_served(table, houses) need_opening(table, value) is_opening(table, value)
        price_of(table, prices, houses) gap(table, prices, opening, payments)
        gap_parts(table, prices, opening, payments) check_meet(table, prices, opening, payments)
        least_for(table, prices, people) least_price(table, prices) least_openings(table, prices)
        first_opening(table, prices)""",
    "rings": """need_ring(table, value) is_ring(table, value) is_odd_ring(table, value) ring_forms(ring)
        least_form(ring) turned_ring(ring) ring_part(table, ring)""",
    "shares": """need_shares(table, value) supplies(table, shares) is_shares(table, value) cost_of(prices, shares)
        shares_of(table, opening) paid_to(table, payments) share_gaps(table, prices, shares, payments)
        do_meet(table, prices, shares, payments)""",
    "orders": """need_order(table, value) bent_corner(table, order) is_straight(table, order) is_sorted(table, order)
        sorted_order(table) worth_of(table, order) straight_order(table)""",
    "roads": """Roads(places, lines) need_roads(value) is_roads(value) roads_of(places, lines) ways_from(roads, place)
        way(roads, one, other) way_places(roads, one, other) meeting(roads, one, other, third)
        branches(roads, place)""",
    "ways": """need_trips(value) nearest_open(trips, opening) all_in(trips, prices, opening)
        taken_by(trips, payments, house) right_way_payments(trips, prices, value) check_ways(trips, prices, value)
        least_all_in(trips, prices)""",
    "bends": "ring_by(table, order)",
    "corners": "rank_of(rows) is_corner(table, shares) all_corners(table)",
    "deeds": """person_put(table, prices, person, houses) person_gone(table, prices, person)
        house_put(table, prices, house, people, price) house_gone(table, prices, house)
        price_put(table, prices, house, price)""",
    "heights": "height(roads, root, seat) road_order(roads, people, houses, root)",
    "lines": """Lines(basis, rows, last) first_lines(table, prices) turned_on(lines, at, name) values_of(lines)
        hold(lines, values) gain_at(lines, values)""",
    "settling": """entering(lines) leaving(lines, name) settle_rows(table, prices) settle_steps(table, prices)
        least_shares(table, prices)""",
    "branches": """check_branches(table, prices, opening, value) branch_paper(table, prices) leaves_of(tree)
        depth_of(tree)""",
    "apart": "dot_table(size) ring_table(size) distance(table, prices, price)",
    "changing": "least_cost(table, prices) cost_line(table, prices, house)",
    "loops": """need_loop(table, value) is_loop(table, value) chords(table, loop) cut(loop, chord) cutting(table, loop)
        check_cutting(table, loop, value) cut_ends(loop, value)""",
    "means": "mean_paper(table, shares) check_mean(table, shares, value)",
    "needed": """with_house(table, prices, house) without_house(table, prices, house) useful_houses(table, prices)
        needed_houses(table, prices) dearest(table, prices, house)""",
    "paying": """headroom(table, prices, payments, person) paid_more(table, prices, payments, person)
        paid_in_turn(table, prices, people) wholly_paid(table, prices, payments) is_stuck(table, prices, payments)""",
    "passes": """pass_by(table, prices, order) one_pass(table, prices) lead_of(table, prices, order, person)
        order_left(order, people, houses) ring_paper(table) is_straight_paper(table, value)""",
    "pieces": "together_with(table, person) pieces(table) beside(one, other)",
    "quick": """harmonic(number) quick_rows(table, prices) quick_opening(table, prices)
        quick_payments(table, prices)""",
    "seats": """need_seats(roads, value) is_seats(roads, value) road_table(roads, people, houses)
        nearest(roads, houses, place) districts(roads, houses)""",
    "middles": """sum_from(roads, people, place) farthest_from(roads, people, place) middles(roads, people)
        centres(roads, people) branch_counts(roads, people, place)""",
    "ties": """ties(table, houses) tied_lots(table, houses) tie_ring(table, houses) any_ring(table) odd_ring(table)
        all_rings(table) is_even(table) is_ringless(table)""",
    "painting": """is_paint(table, value) painted(table) check_painted(table, value) loose_houses(table, houses)
        painted_back(table, order)""",
    "copies": """copied(table, copies) seen(table, paints) check_coats(table, many, value) coats(table, many)""",
    "dealing": """deal(table, shares) check_deal(table, shares, value) mean_of(table, openings)
        cheapest_of(table, prices, openings)""",
    "middle": """Meets(opening, payments) whole_payments(table, prices) best(table, prices)
        check_meets(table, prices, value) meets(table, prices)""",
    "parting": """Parts(ring, people, houses, prices) verdict(table) check_parts(table, value) gap_of(table, ring)
        half_payments(table, ring)""",
    "placing": "placing(roads, people, table) check_placing(roads, people, table, value)",
    "spread": "spread(roads, people, spots, many) check_spread(roads, people, spots, many, value)",
    "thinning": "thinned(table, houses) raised_opening(table, prices) by_shares(table, shares)",
    "shrinking": "shrinks(table, prices) shrunk(table, prices, steps) shrink_all(table, prices)",
    "kept": "Kept(table, prices)",
    "coming": """rise_for(table, prices, houses) worth(table, prices, people) steady_opening(table, prices, opening)
        steady_payments(table, prices, payments)""",
    "evenness": "odd_lots(table) even_paper(table) check_even(table, value) unpainted_lots(table)",
    "town": "Town() kind_of(table) both_of(table, prices, kind)",
    "commands": "call_line(call) read_call(value)",
    "desk": "Desk() run_lines(lines)",
    "fines": """Plan(opening, unserved, payments) plan_price(table, prices, fines, houses) best_plan(table, prices, fines)
        check_plan(table, prices, fines, value) least_plan_price(table, prices, fines) parting_fines(table)
        check_parting(table, ring, prices, fines) ring_payments(table, ring)""",
    "facts": "facts_of(sheet) all_facts(facts) told_by(facts, word, question)",
    "groups": """objection(table, prices, payments) check_objection(table, prices, payments, value)
        is_content(table, prices, payments) can_share(table, prices) shared(table, prices) lacking(table, prices)
        spans(table, prices) within_spans(table, prices, payments)""",
    "packing": """Packed(lot, cover) is_apart(table, value) apart_lots(table) greatest_worth(table, worths)
        is_cover(table, worths, value) gap_rows(table, worths, lot, cover) check_packed(table, worths, value)
        slack_table(table, worths) packed(table, worths)""",
    "once": """is_once(table, value) all_once(table) check_tilt(table, value) are_dues(table, prices, value)
        check_once(table, prices, once, dues) once_or_tilt(table) least_once(table, prices)""",
    "sheets": "sheet_holds(value)",
    "audit": "audit(record)",
    "swaps": """check_swap(table, lot, value) swapped(lot, swap) find_swap(table, lot) most_apart(table)
        meeting_people(table, lot)""",
    "pairs": "never_together(table, value) meet_all(table, value) sides_or_ring(table) four_numbers(table)",
    "townruns": "run(calls) whole_paper(table, prices) check_whole_paper(table, prices, value)",
    "turning": "turn_deeds(table, prices, other, costs)",
    "roadtown": "RoadTown(place)",
    "wayrows": """way_table(trips, prices) least_ways(trips) forth_opening(trips, opening) back_opening(trips, opening)
        back_payments(trips, payments)""",
    "waypass": """best_ways(trips, prices) trips_on(roads, people, weights, houses)
        best_on(roads, people, weights, houses, prices)""",
    "errors": """InvalidFraction(at) InvalidTable(at) InvalidPrices(at) InvalidOpening(at) InvalidPayments(at)
        InvalidRing(at) InvalidRoads(at) InvalidText(at) InvalidSize(word) Refused(word) NoName(name)""",
}

METHODS = {
    "kept.Kept": "come(person, houses) leave(person) build(house, people, price) close(house) set_price(house, price)",
    "town.Town": """table_now() prices_now() unserved_now() calls() depth() kind_now() both_now() opening_now() payments_now()
        gap_now() do(call) twin()""",
    "desk.Desk": "say(line) said() record()",
    "roadtown.RoadTown": """do(call) roads_now() people_now() houses_now() table_now() prices_now() town_now() order_now()
        both_now() sheets_now()""",
}


def calls_of(text):
    """Each word and its arguments."""
    for call in text.replace(")", ")\n").split("\n"):
        if call.strip():
            word, arguments = call.strip().rstrip(")").split("(")
            yield word, arguments.split(", ") if arguments else []


class InterfaceTest(unittest.TestCase):

    def test_names_and_arguments(self):
        for name, calls in CALLS.items():
            module = importlib.import_module("servedall." + name)
            with open(os.path.join(FOLDER, name + ".py"), encoding="utf-8") as file:
                defined = [node.name for node in ast.parse(file.read()).body
                           if isinstance(node, (ast.FunctionDef, ast.ClassDef))]
            for word, arguments in calls_of(calls):
                self.assertIn(word, defined, name)
                self.assertEqual(list(inspect.signature(getattr(module, word)).parameters), arguments, word)

    def test_methods(self):
        for place, calls in METHODS.items():
            name, word = place.split(".")
            own = vars(getattr(importlib.import_module("servedall." + name), word))
            for method, arguments in calls_of(calls):
                self.assertIn(method, own, place)
                self.assertEqual(list(inspect.signature(own[method]).parameters), ["self"] + arguments, method)

    def test_all_of_the_interface(self):
        # The document lists 59 files and 296 names: ZERO, ONE, ServeError and InvalidCommand take no arguments.
        self.assertEqual(len(CALLS), 59)
        self.assertEqual(sum(len(list(calls_of(calls))) for calls in CALLS.values()), 292)

    def test_objects_are_not_gone_over(self):
        objects = [value for value in ANY if type(value).__module__.startswith("servedall.")]
        self.assertGreater(len(objects), 12)
        for value in objects:
            self.assertRaises(TypeError, iter, value)
            self.assertRaises(TypeError, len, value)

    def test_equal_to_nothing_of_another_class(self):
        made = [Plan((), (), ()), Packed((), ()), Meets((), ()), Table((), (), ()), Roads((), ()), Lines((), (), ()),
                Parts((), (), (), ())]
        for one, other in itertools.permutations(made, 2):
            self.assertFalse(one == other)
            self.assertTrue(one != other)
        for one in made:
            self.assertFalse(any(one == other for other in ANY if type(other) is not type(one)))

    def test_errors_without_arguments(self):
        errors = importlib.import_module("servedall.errors")
        self.assertIsInstance(errors.InvalidCommand(), errors.ServeError)


if __name__ == "__main__":
    unittest.main()
