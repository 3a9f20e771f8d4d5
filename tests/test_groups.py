"""[36] Groups: objections, and the least price shared."""

import itertools
import random
import unittest
from fractions import Fraction

from servedall import groups as g
from servedall.apart import ring_table
from servedall.errors import InvalidPrices, Refused
from servedall.prices import right_payments
from servedall.settling import least_shares
from servedall.tables import Table, left, table_of
from servedall.ties import is_even
from support import (ANY, check_call, even_tables, least_by_hand, openings_by_hand, pair_of, raised, random_fractions,
                     random_prices, random_table, ringless_tables, some_tables, subsets, tables_of_size, value_of)

RING = table_of("abc", "xyz", [("a", "x"), ("a", "y"), ("b", "y"), ("b", "z"), ("c", "x"), ("c", "z")])
PATH = table_of("abc", "xyz", [("a", "x"), ("a", "y"), ("b", "y"), ("b", "z"), ("c", "z")])
LONE = Table(("a", "b"), ("x",), (("b", "x"),))
EMPTY = Table((), (), ())


def objects_by_hand(table, prices, payments, people):
    """Whether some people, one at least, pay more than they need by themselves."""
    least = least_by_hand(table, prices, people)
    paid = sum(value_of(pays) for name, pays in zip(table.people, payments) if name in people)
    return bool(people) and least is not None and paid > least


def some_payments(dice, table, prices):
    """Payments of several kinds: any ones, the greatest right ones, and such with a little more."""
    found = [random_fractions(dice, len(table.people)), ((0, 1),) * len(table.people)]
    if openings_by_hand(table):
        best = least_shares(table, prices)[1]
        found.append(best)
        for at in range(len(best)):
            more = value_of(best[at]) + dice.choice((Fraction(1, 7), 1))
            found.append(best[:at] + (pair_of(more),) + best[at + 1:])
    return found


class ObjectionTest(unittest.TestCase):

    def test_examples(self):
        pays = ((2, 3),) * 3
        self.assertEqual((g.can_share(RING, (1, 1, 1)), g.lacking(RING, (1, 1, 1)),
                          g.check_objection(RING, (1, 1, 1), pays, ("a", "b"))), (False, (1, 2), True))
        self.assertEqual((g.objection(PATH, (2, 3, 4), ((2, 1), (1, 1), (3, 1))), g.spans(PATH, (2, 3, 4))),
                         (None, ((2, 2), (0, 3), (3, 4))))

    def test_all_groups_of_small_tables(self):
        dice = random.Random(1)
        seen = set()
        for table in itertools.chain([RING, PATH, LONE, EMPTY], tables_of_size(2, 2), some_tables(2, 60, most=4)):
            prices = random_prices(dice, table)
            for payments in some_payments(dice, table, prices):
                call = {"table": table, "prices": prices, "payments": payments}
                groups = [people for people in subsets(table.people) if objects_by_hand(table, prices, payments, people)]
                for people in subsets(table.people):
                    self.assertIs(check_call(self, g.check_objection, **call, value=people), people in groups)
                found = check_call(self, g.objection, **call)
                self.assertIs(found is None, groups == [])
                self.assertIs(found is None, right_payments(table, prices, payments))
                if found is not None:
                    self.assertIn(found, groups)
                seen.add(found is None)
        self.assertEqual(seen, {True, False})

    def test_never_with_somebody_without_a_house(self):
        pays = ((9, 1), (9, 1))
        self.assertIs(g.check_objection(LONE, (1,), pays, ("a",)), False)
        self.assertIs(g.check_objection(LONE, (1,), pays, ("a", "b")), False)
        self.assertIs(g.check_objection(LONE, (1,), pays, ("b",)), True)
        self.assertEqual(g.objection(LONE, (1,), pays), ("b",))
        self.assertIsNone(g.objection(LONE, (9,), pays))
        self.assertIsNone(g.objection(Table(("a",), (), ()), (), ((5, 1),)))

    def test_wrong_objections(self):
        pays = ((3, 1),) * 3
        self.assertIs(g.check_objection(RING, (1, 1, 1), pays, ("a", "b", "c")), True)
        for value in ((), ["a", "b"], ("b", "a"), ("a", "a"), ("a", "q"), ("x",), "a", None, (True,), ("a", None)):
            self.assertIs(g.check_objection(RING, (1, 1, 1), pays, value), False, value)
        for value in ANY:
            wanted = isinstance(value, tuple) and value in (("a",), ("a", "b"))
            self.assertIs(g.check_objection(RING, (1, 1, 1), pays, value), wanted)
            self.assertIs(g.check_objection(RING, (1, 1, 1), pays, ("a", value)), False)
        # Just as much as they need is no objection.
        self.assertIs(g.check_objection(RING, (1, 1, 1), ((1, 1),) * 3, ("a",)), False)


class ShareTest(unittest.TestCase):

    def check_case(self, table, prices, payments):
        call = {"table": table, "prices": prices}
        least = least_by_hand(table, prices, table.people)
        greatest = sum(map(value_of, least_shares(table, prices)[1]))
        self.assertEqual(value_of(check_call(self, g.lacking, **call)), least - greatest)
        self.assertIs(check_call(self, g.can_share, **call), greatest == least)
        if greatest == least:
            payments.append(check_call(self, g.shared, **call))
        else:
            self.assertEqual(raised(g.shared, **call), (Refused, "leaving"))
        spans = []
        for name in table.people:
            low = least - least_by_hand(table, prices, [other for other in table.people if other != name])
            spans.append((low, min(price for house, price in zip(table.houses, prices) if (name, house) in table.pairs)))
        self.assertEqual(check_call(self, g.spans, **call), tuple(spans))
        for pays in payments:
            content = (sum(map(value_of, pays)) == least
                       and not any(objects_by_hand(table, prices, pays, people) for people in subsets(table.people)))
            self.assertIs(check_call(self, g.is_content, **call, payments=pays), content)
            within = all(low <= value_of(one) <= high for one, (low, high) in zip(pays, spans))
            self.assertIs(check_call(self, g.within_spans, **call, payments=pays), within)
            self.assertTrue(within or not content)
        return greatest == least

    def test_all_small_tables(self):
        dice = random.Random(3)
        odd = 0
        for table in itertools.chain([RING, PATH, EMPTY], tables_of_size(3, 3), some_tables(4, 60, servable=True)):
            prices = random_prices(dice, table)
            if not openings_by_hand(table):
                for call in (g.can_share, g.shared, g.lacking, g.spans):
                    self.assertEqual(raised(call, table=table, prices=prices), (Refused, "unserved"))
                continue
            for costs in (prices, (1,) * len(prices)):
                shared = self.check_case(table, costs, some_payments(dice, table, costs))
                self.assertTrue(shared or not is_even(table))
                odd += not shared
        self.assertGreater(odd, 0)

    def test_even_tables_and_their_parts(self):
        dice = random.Random(5)
        for table in itertools.chain(even_tables(6, 30), ringless_tables(7, 30), [ring_table(6)]):
            people = dice.sample(table.people, min(4, len(table.people)))
            for part in (table, left(table, people, table.houses)):
                if openings_by_hand(part):
                    self.assertTrue(self.check_case(part, random_prices(dice, part), []))

    def test_within_spans_need_not_be_content(self):
        self.assertIs(g.within_spans(PATH, (2, 3, 4), ((2, 1), (3, 1), (4, 1))), True)
        self.assertIs(g.is_content(PATH, (2, 3, 4), ((2, 1), (3, 1), (4, 1))), False)
        for pays in (((3, 2), (1, 1), (3, 1)), ((2, 1), (7, 2), (3, 1)), ((2, 1), (1, 1), (5, 2))):
            self.assertIs(g.within_spans(PATH, (2, 3, 4), pays), False)

    def test_eight(self):
        dice = random.Random(8)
        for density in (0.2, 0.4, 0.8):
            table = random_table(dice, 8, 8, density, servable=True)
            self.check_case(table, tuple(dice.randint(0, 10 ** 6 - 1) for _ in range(8)), [])

    def test_nobody(self):
        for table, prices in ((EMPTY, ()), (Table((), ("x",), ()), (4,))):
            self.assertIs(self.check_case(table, prices, [()]), True)
            self.assertEqual((g.shared(table, prices), g.lacking(table, prices), g.spans(table, prices)), ((), (0, 1), ()))


class ErrorTest(unittest.TestCase):

    def check(self, table, prices, wanted):
        pays = ((0, 1),) * len(table.people)
        for call in (g.can_share, g.shared, g.lacking, g.spans):
            self.assertEqual(raised(call, table=table, prices=prices), wanted)
        for call in (g.is_content, g.within_spans):
            self.assertEqual(raised(call, table=table, prices=prices, payments=pays), wanted)

    def test_prices_then_unserved(self):
        for prices in (None, (1, 1), [1, 1, 1], (1, 1, 1, 1), "abc"):
            self.check(RING, prices, (InvalidPrices, -1))
            self.check(LONE, prices, (InvalidPrices, -1))
        for wrong in (-1, True, None, "1", (1, 1)):
            self.check(RING, (1, wrong, wrong), (InvalidPrices, 1))
            self.check(LONE, (wrong,), (InvalidPrices, 0))
        self.check(LONE, (1,), (Refused, "unserved"))
        self.check(table_of("abcd", "xyz", RING.pairs), (1, 1, 1), (Refused, "unserved"))
        self.assertEqual(raised(g.shared, RING, (1, 1, 1)), (Refused, "leaving"))

    def test_any_value(self):
        for value in ANY:
            self.check(RING, value, (InvalidPrices, 0 if isinstance(value, tuple) and len(value) == 3 else -1))
            if type(value) is not int or value < 0:
                self.check(RING, (1, 1, value), (InvalidPrices, 2))


if __name__ == "__main__":
    unittest.main()
