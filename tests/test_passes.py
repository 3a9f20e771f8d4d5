"""[41] to [43] Passes."""

import itertools
import random
import unittest

from servedall import passes as p
from servedall.errors import Refused
from servedall.openings import is_opening, least_price, price_of
from servedall.orders import is_straight, straight_order
from servedall.paying import paid_in_turn, wholly_paid
from servedall.prices import right_payments, sum_of
from servedall.rings import is_ring
from servedall.tables import Table, left, table_of
from support import (ANY, check_call, even_tables, raised, random_prices, random_table, ringless_tables,
                     rings_by_hand, some_tables, tables_of_size, value_of)

ROW = table_of("abc", "hij", [("a", "h"), ("a", "i"), ("b", "i"), ("b", "j"), ("c", "j")])
RING = table_of("abc", "hij", [("a", "h"), ("a", "i"), ("b", "i"), ("b", "j"), ("c", "h"), ("c", "j")])
ORDER = (("a", "b", "c"), ("h", "i", "j"))
EMPTY = Table((), (), ())
LONE = Table(("a", "b"), ("x",), (("b", "x"),))


def some_order(dice, table):
    return (tuple(dice.sample(table.people, len(table.people))), tuple(dice.sample(table.houses, len(table.houses))))


def kept_by_hand(table, prices, order, payments):
    """Of the houses that are wholly paid, from the last one on, those that share no payer with a kept one."""
    payers = {name for name, pays in zip(table.people, payments) if value_of(pays) > 0}
    lots = {house: {name for name in payers if (name, house) in table.pairs} for house in table.houses}
    chosen = []
    for house in order[1][::-1]:
        if house in wholly_paid(table, prices, payments) and not any(lots[house] & lots[one] for one in chosen):
            chosen.append(house)
    return tuple(sorted(chosen))


class PassTest(unittest.TestCase):

    def check_order(self, table, prices, order):
        call = {"table": table, "prices": prices, "order": order}
        houses, payments = check_call(self, p.pass_by, **call)
        self.assertEqual(payments, paid_in_turn(table, prices, order[0]))
        self.assertEqual(houses, kept_by_hand(table, prices, order, payments))
        self.assertTrue(right_payments(table, prices, payments))
        self.assertTrue(set(houses) <= set(wholly_paid(table, prices, payments)))
        payers = [name for name, pays in zip(table.people, payments) if pays != (0, 1)]
        served = {name: [h for h in houses if (name, h) in table.pairs] for name in payers}
        self.assertTrue(all(len(some) <= 1 for some in served.values()))
        self.assertLessEqual(price_of(table, prices, houses), value_of(sum_of(payments)))
        self.assertIs(price_of(table, prices, houses) == value_of(sum_of(payments)), all(served.values()))
        for at, person in enumerate(order[0]):
            lead, kept = check_call(self, p.lead_of, **call, person=person)
            then = paid_in_turn(table, prices, order[0][:at + 1])
            own = [h for h in order[1] if (person, h) in table.pairs]
            self.assertEqual(lead, [h for h in own if h in wholly_paid(table, prices, then)][-1])
            self.assertEqual(kept, ([None] + [h for h in own if h in houses])[-1])
            if is_straight(table, order):
                self.assertLessEqual(order[1].index(lead), order[1].index(kept))
        if is_straight(table, order):
            self.assertTrue(is_opening(table, houses))
            self.assertEqual(price_of(table, prices, houses), value_of(sum_of(payments)))
            self.assertEqual(price_of(table, prices, houses), least_price(table, prices))

    def test_example(self):
        self.assertEqual((p.pass_by(ROW, (2, 3, 2), ORDER), p.lead_of(ROW, (2, 3, 2), ORDER, "b")),
                         ((("h", "j"), ((2, 1), (1, 1), (1, 1))), ("i", "j")))

    def test_any_order(self):
        dice = random.Random(1)
        for table in some_tables(2, 80, servable=True):
            for _ in range(3):
                self.check_order(table, random_prices(dice, table), some_order(dice, table))

    def test_straight_orders(self):
        dice = random.Random(3)
        for table in ringless_tables(4, 60):
            for prices in (random_prices(dice, table), (1,) * len(table.houses), (0,) * len(table.houses)):
                self.check_order(table, prices, straight_order(table))
                self.check_order(table, prices, some_order(dice, table))

    def test_all_orders(self):
        for prices in ((2, 3, 2), (0, 1, 1), (1, 1, 1)):
            for order in itertools.product(itertools.permutations("abc"), itertools.permutations("hij")):
                self.check_order(ROW, prices, order)
                self.check_order(RING, prices, order)

    def test_nobody_is_kept_for(self):
        self.assertEqual(p.lead_of(RING, (1, 1, 1), (("a", "b", "c"), ("j", "i", "h")), "b"), ("i", None))

    def test_sixteen(self):
        dice = random.Random(5)
        table = random_table(dice, 16, 16, 0.3, servable=True)
        prices = tuple(dice.randint(0, 10 ** 12 - 1) for _ in range(16))
        order = some_order(dice, table)
        houses, payments = p.pass_by(table, prices, order)
        self.assertEqual(houses, kept_by_hand(table, prices, order, payments))

    def test_free_houses_are_kept(self):
        idle = table_of("ab", "xyz", [("a", "x"), ("a", "y"), ("b", "y")])
        self.assertEqual(p.pass_by(idle, (0, 0, 0), (("b", "a"), ("z", "y", "x"))), (("x", "y", "z"), ((0, 1),) * 2))
        self.assertEqual(p.pass_by(idle, (0, 2, 5), (("b", "a"), ("z", "y", "x")))[0], ("x", "y"))
        self.assertEqual(p.pass_by(EMPTY, (), ((), ())), ((), ()))
        self.assertEqual(p.pass_by(Table((), ("x", "y"), ()), (0, 1), ((), ("y", "x"))), (("x",), ()))

    def test_unserved(self):
        order = (("b", "a"), ("x",))
        self.assertEqual(raised(p.pass_by, table=LONE, prices=(1,), order=order), (Refused, "unserved"))
        for person in ("a", "b"):
            self.assertEqual(raised(p.lead_of, LONE, (1,), order, person), (Refused, "unserved"))


class OnePassTest(unittest.TestCase):

    def check_table(self, table, prices, ringless):
        if any(not any(one == name for one, _ in table.pairs) for name in table.people):
            self.assertEqual(raised(p.one_pass, table, prices), (Refused, "unserved"))
        elif not ringless:
            self.assertEqual(raised(p.one_pass, table=table, prices=prices), (Refused, "ring"))
        else:
            opening, payments = check_call(self, p.one_pass, table=table, prices=prices)
            self.assertTrue(is_opening(table, opening) and right_payments(table, prices, payments))
            self.assertTrue(all(bottom == 1 for _, bottom in payments))
            self.assertEqual(price_of(table, prices, opening), value_of(sum_of(payments)))
            self.assertEqual(price_of(table, prices, opening), least_price(table, prices))

    def test_all_small_tables(self):
        for table in itertools.chain(tables_of_size(3, 3), tables_of_size(2, 4), tables_of_size(0, 2),
                                     tables_of_size(2, 0)):
            for prices in ((2, 3, 2, 1), (0, 0, 1, 0), (1, 1, 1, 1)):
                self.check_table(table, prices[:len(table.houses)], not rings_by_hand(table))

    def test_ringless_tables(self):
        dice = random.Random(6)
        for table in ringless_tables(7, 80, most=10):
            self.check_table(table, random_prices(dice, table), True)

    def test_refused(self):
        four = table_of("abcd", "wxyz", [(a, h) for a, hs in zip("abcd", ("wz", "wx", "xy", "yz")) for h in hs])
        both = table_of("abce", "hij", RING.pairs)
        self.assertEqual(raised(p.one_pass, RING, (1, 1, 1)), (Refused, "ring"))
        self.assertEqual(raised(p.one_pass, four, (0, 0, 0, 0)), (Refused, "ring"))
        self.assertEqual(raised(p.one_pass, both, (1, 1, 1)), (Refused, "unserved"))


class PaperTest(unittest.TestCase):

    def check_table(self, table, ringless=None):
        word, paper = check_call(self, p.ring_paper, table=table)
        if word == "straight":
            self.assertIs(check_call(self, p.is_straight_paper, table=table, value=paper), True)
            self.assertTrue(is_straight(table, paper))
        else:
            self.assertEqual(word, "ring")
            self.assertTrue(is_ring(table, paper))
            self.assertIs(p.is_straight_paper(table, (table.people, table.houses)), False)
        if ringless is not None:
            self.assertIs(word == "straight", ringless)

    def test_example(self):
        self.assertEqual(p.ring_paper(RING)[0], "ring")

    def test_all_small_tables(self):
        for table in itertools.chain(tables_of_size(3, 3), tables_of_size(4, 2), tables_of_size(0, 0)):
            self.check_table(table, not rings_by_hand(table))

    def test_all_kinds(self):
        for table in some_tables(8, 100):
            self.check_table(table, not rings_by_hand(table))
        for table in even_tables(9, 40, most=5):
            self.check_table(table, not rings_by_hand(table))
        for table in ringless_tables(10, 40, most=10):
            self.check_table(table, True)
        dice = random.Random(11)
        for density in (0.1, 0.2, 0.3):
            self.check_table(random_table(dice, 16, 16, density))

    def test_straight_papers(self):
        for order in itertools.product(itertools.permutations("abc"), itertools.permutations("hij")):
            self.assertIs(p.is_straight_paper(ROW, order), is_straight(ROW, order))
            self.assertIs(p.is_straight_paper(value=order, table=RING), False)

    def test_any_value(self):
        for value in ANY + [("straight", ORDER), list(ORDER), (list(ORDER[0]), ORDER[1]), (ORDER[0], "hij"),
                            (("a", "b"), ORDER[1]), (ORDER[0] + ("c",), ORDER[1]), ORDER + ((),), (ORDER[0], ORDER[0]),
                            (("a", "b", "b"), ORDER[1]), (("a", "b", ["c"]), ORDER[1])]:
            self.assertIs(p.is_straight_paper(ROW, value), False)
        self.assertIs(p.is_straight_paper(EMPTY, ((), ())), True)
        self.assertIs(p.is_straight_paper(EMPTY, ()), False)

    def test_order_left(self):
        order = (("c", "a", "b"), ("j", "h", "i"))
        self.assertEqual(check_call(self, p.order_left, order=order, people=("a", "c"), houses=("i", "j")),
                         (("c", "a"), ("j", "i")))
        self.assertEqual(p.order_left(order, ["b", "a", "b"], []), (("a", "b"), ()))
        self.assertEqual(p.order_left(order, [], ["h"]), ((), ("h",)))
        dice = random.Random(12)
        for table in ringless_tables(13, 40):
            people = [name for name in table.people if dice.random() < 0.7]
            houses = [house for house in table.houses if dice.random() < 0.7]
            part = p.order_left(straight_order(table), people, houses)
            self.assertIs(p.is_straight_paper(left(table, people, houses), part), True)


if __name__ == "__main__":
    unittest.main()
