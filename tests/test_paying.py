"""[16] Paying in turn."""

import itertools
import random
import unittest
from fractions import Fraction

from servedall import paying as p
from servedall.errors import Refused
from servedall.openings import is_opening
from servedall.prices import right_payments, spares, sum_of
from servedall.tables import Table, most_houses, table_of
from support import (check_call, pair_of, price_by_hand, raised, random_prices, random_table, some_tables, value_of)

TOWN = table_of("pqr", "xyz", [("p", "x"), ("p", "z"), ("q", "x"), ("q", "y"), ("r", "y"), ("r", "z")])
EMPTY = Table((), (), ())


def spares_by_hand(table, prices, payments):
    """For each house its price less what its people pay."""
    return {house: price - sum(value_of(pays) for name, pays in zip(table.people, payments)
                               if (name, house) in table.pairs)
            for house, price in zip(table.houses, prices)}


def room_by_hand(table, prices, payments, person):
    spare = spares_by_hand(table, prices, payments)
    rooms = [spare[house] for house in table.houses if (person, house) in table.pairs]
    return min(rooms) if rooms else None


def turn_by_hand(table, prices, people):
    """What is paid if each in turn pays as much as there is room; None if somebody has no house."""
    payments = [(0, 1)] * len(table.people)
    for person in people:
        room = room_by_hand(table, prices, payments, person)
        if room is None:
            return None
        at = table.people.index(person)
        payments[at] = pair_of(value_of(payments[at]) + room)
    return tuple(payments)


def some_payments(dice, table, prices):
    """Right payments, whole ones or not: some people pay a part of what they could."""
    payments = [(0, 1)] * len(table.people)
    for at in dice.sample(range(len(payments)), len(payments)):
        room = room_by_hand(table, prices, payments, table.people[at])
        payments[at] = pair_of((room or 0) * dice.choice((0, Fraction(1, 3), Fraction(1, 2), 1)))
    return tuple(payments)


class PayingTest(unittest.TestCase):

    def check_payments(self, table, prices, payments):
        call = {"table": table, "prices": prices, "payments": payments}
        for at, person in enumerate(table.people):
            room = check_call(self, p.headroom, **call, person=person)
            wanted = room_by_hand(table, prices, payments, person)
            self.assertEqual(room, None if wanted is None else pair_of(wanted))
            if wanted is None:
                self.assertEqual(raised(p.paid_more, **call, person=person), (Refused, "unserved"))
            else:
                more = check_call(self, p.paid_more, **call, person=person)
                paid = pair_of(value_of(payments[at]) + wanted)
                self.assertEqual(more, payments[:at] + (paid,) + payments[at + 1:])
                self.assertTrue(right_payments(table, prices, more))
                self.assertEqual(p.headroom(table, prices, more, person), (0, 1))
        full = tuple(house for house, spare in spares_by_hand(table, prices, payments).items() if spare == 0)
        self.assertEqual(check_call(self, p.wholly_paid, **call), full)
        stuck = check_call(self, p.is_stuck, **call)
        self.assertIs(stuck, all(room_by_hand(table, prices, payments, person) == 0 for person in table.people))
        self.assertIs(stuck, is_opening(table, full))
        if stuck:
            self.assertLessEqual(price_by_hand(table, prices, full),
                                 value_of(sum_of(payments)) * most_houses(table))

    def test_example(self):
        pays = p.paid_in_turn(TOWN, (3, 2, 4), ("r", "p", "q"))
        self.assertEqual((pays, p.wholly_paid(TOWN, (3, 2, 4), pays), p.is_stuck(TOWN, (3, 2, 4), pays)),
                         (((2, 1), (0, 1), (2, 1)), ("y", "z"), True))

    def test_payments(self):
        dice = random.Random(1)
        for table in some_tables(2, 120):
            prices = random_prices(dice, table)
            self.check_payments(table, prices, some_payments(dice, table, prices))
            self.check_payments(table, prices, ((0, 1),) * len(table.people))

    def test_in_turn_in_any_order(self):
        dice = random.Random(3)
        for table in some_tables(4, 60, most=4, servable=True):
            prices = random_prices(dice, table)
            for people in itertools.permutations(table.people):
                pays = check_call(self, p.paid_in_turn, table=table, prices=prices, people=people)
                self.assertEqual(pays, turn_by_hand(table, prices, people))
                self.assertEqual(p.paid_in_turn(table, prices, list(people)), pays)
                self.assertTrue(all(bottom == 1 for _, bottom in pays))
                self.assertTrue(p.is_stuck(table, prices, pays))
                self.check_payments(table, prices, pays)

    def test_some_people_and_some_twice(self):
        dice = random.Random(5)
        for table in some_tables(6, 60):
            prices = random_prices(dice, table)
            people = [dice.choice(table.people) for _ in range(dice.randint(0, 6)) if table.people]
            wanted = turn_by_hand(table, prices, people)
            if wanted is None:
                self.assertEqual(raised(p.paid_in_turn, table, prices, people), (Refused, "unserved"))
            else:
                self.assertEqual(check_call(self, p.paid_in_turn, table=table, prices=prices, people=people), wanted)

    def test_sixteen(self):
        dice = random.Random(7)
        for density in (0.2, 0.6):
            table = random_table(dice, 16, 16, density, servable=True)
            prices = tuple(dice.randint(0, 10 ** 12) for _ in range(16))
            pays = p.paid_in_turn(table, prices, table.people[::-1])
            self.assertEqual(pays, turn_by_hand(table, prices, table.people[::-1]))
            self.assertTrue(p.is_stuck(table, prices, pays))

    def test_edges(self):
        self.assertEqual(p.paid_in_turn(EMPTY, (), ()), ())
        self.assertEqual(p.wholly_paid(EMPTY, (), ()), ())
        self.assertIs(p.is_stuck(EMPTY, (), ()), True)
        idle = Table((), ("x", "y"), ())
        self.assertEqual(p.wholly_paid(idle, (0, 3), ()), ("x",))
        self.assertIs(p.is_stuck(idle, (1, 3), ()), True)
        lone = Table(("a", "b"), ("x",), (("b", "x"),))
        none = ((0, 1), (0, 1))
        self.assertIsNone(p.headroom(lone, (0,), none, "a"))
        self.assertIs(p.is_stuck(lone, (0,), none), False)
        self.assertEqual(p.paid_in_turn(lone, (4,), ("b", "b")), ((0, 1), (4, 1)))
        self.assertEqual(raised(p.paid_in_turn, table=lone, prices=(4,), people=("b", "a")), (Refused, "unserved"))
        self.assertEqual(raised(p.paid_more, lone, (4,), none, "a"), (Refused, "unserved"))
        self.assertEqual(p.paid_more(lone, (0,), none, "b"), none)
        self.assertEqual(spares(lone, (4,), none), ((4, 1),))


if __name__ == "__main__":
    unittest.main()
