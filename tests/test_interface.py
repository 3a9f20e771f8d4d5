"""The names of the interface, each defined in its own file with its arguments."""

import ast
import importlib
import inspect
import os
import unittest

FOLDER = os.path.join(os.path.dirname(os.path.dirname(os.path.abspath(__file__))), "servedall")
CALLS = {
    "fractions": """need_fraction(value) is_fraction(value) fraction(top, bottom) whole(number) plus(one, other)
        minus(one, other) times(one, other) over(one, other) negative(one) sign_of(one) compared(one, other)
        floor_of(one) ceiling_of(one) total_of(some) least_of(some) greatest_of(some) fraction_text(one)
        read_fraction(value)""",
    "tables": """Table(people, houses, pairs) need_table(value) is_table(value) table_of(people, houses, pairs)
        served_by(table, person) serves(table, house) unserved(table) is_servable(table) most_houses(table)
        most_people(table) grid(table) left(table, people, houses) without(table, people, houses) turned(table)""",
    "tabletext": "table_text(table) read_table(value)",
    "prices": """need_prices(table, value) is_prices(table, value) price_at(table, prices, house)
        repriced(table, prices, house, price) sum_of(payments) asked_of(table, payments, house)
        spares(table, prices, payments) need_payments(table, prices, value) right_payments(table, prices, value)""",
    "openings": """not_served(table, houses) need_opening(table, value) is_opening(table, value)
        price_of(table, prices, houses) gap(table, prices, opening, payments)
        gap_parts(table, prices, opening, payments) check_meet(table, prices, opening, payments)
        least_for(table, prices, people) least_price(table, prices) least_openings(table, prices)
        first_opening(table, prices)""",
    "rings": """need_ring(table, value) is_ring(table, value) is_odd_ring(table, value) ring_forms(ring)
        least_form(ring) turned_ring(ring) ring_part(table, ring)""",
    "shares": """need_shares(table, value) supplies(table, shares) is_shares(table, value) cost_of(prices, shares)
        shares_of(table, opening) paid_to(table, payments) share_gaps(table, prices, shares, payments)
        do_meet(table, prices, shares, payments)""",
    "orders": """need_order(table, value) bent_corner(table, order) is_straight(table, order) is_sorted(table, order)
        sorted_order(table) worth_of(table, order) straight_order(table)""",
    "roads": """Roads(places, lines) need_roads(value) is_roads(value) roads_of(places, lines) ways_from(roads, place)
        way(roads, one, other) way_places(roads, one, other) meeting(roads, one, other, third)
        branches(roads, place)""",
    "ways": """need_trips(value) nearest_open(trips, opening) all_in(trips, prices, opening)
        taken_by(trips, payments, house) right_way_payments(trips, prices, value) check_ways(trips, prices, value)
        least_all_in(trips, prices)""",
    "bends": "ring_by(table, order)",
    "corners": "rank_of(rows) is_corner(table, shares) all_corners(table)",
    "deeds": """person_put(table, prices, person, houses) person_gone(table, prices, person)
        house_put(table, prices, house, people, price) house_gone(table, prices, house)
        price_put(table, prices, house, price)""",
    "heights": "height(roads, root, seat) road_order(roads, people, houses, root)",
    "lines": """Lines(basis, rows, last) first_lines(table, prices) turned_on(lines, at, name) values_of(lines)
        hold(lines, values) gain_at(lines, values)""",
    "settling": """entering(lines) leaving(lines, name) settle_rows(table, prices) settle_steps(table, prices)
        least_shares(table, prices)""",
    "branches": """check_branches(table, prices, opening, value) branch_paper(table, prices) leaves_of(tree)
        depth_of(tree)""",
    "apart": "dot_table(size) ring_table(size) distance(table, prices, price)",
    "errors": """InvalidFraction(at) InvalidTable(at) InvalidPrices(at) InvalidOpening(at) InvalidPayments(at)
        InvalidRing(at) InvalidRoads(at) InvalidText(at) InvalidSize(word) Refused(word) NoName(name)""",
}


class InterfaceTest(unittest.TestCase):

    def test_names_and_arguments(self):
        for name, calls in CALLS.items():
            module = importlib.import_module("servedall." + name)
            with open(os.path.join(FOLDER, name + ".py"), encoding="utf-8") as file:
                defined = [node.name for node in ast.parse(file.read()).body
                           if isinstance(node, (ast.FunctionDef, ast.ClassDef))]
            for call in calls.replace(")", ")\n").split("\n"):
                if call.strip():
                    word, arguments = call.strip().rstrip(")").split("(")
                    self.assertIn(word, defined, name)
                    told = list(inspect.signature(getattr(module, word)).parameters)
                    self.assertEqual(told, arguments.split(", "), call)

    def test_errors_without_arguments(self):
        errors = importlib.import_module("servedall.errors")
        self.assertIsInstance(errors.InvalidCommand(), errors.ServeError)


if __name__ == "__main__":
    unittest.main()
