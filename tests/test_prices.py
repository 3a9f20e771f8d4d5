"""[11], [13] Prices, and what people pay."""

import random
import unittest

from servedall import prices as p
from servedall.errors import InvalidPayments, InvalidPrices
from servedall.tables import Table, table_of
from support import (ANY, check_call, pair_of, raised, random_fractions, random_prices, some_tables, value_of)

RING = table_of("pqr", "xyz", [("p", "x"), ("p", "z"), ("q", "x"), ("q", "y"), ("r", "y"), ("r", "z")])
EMPTY = Table((), (), ())
PAYS = ((1, 1), (3, 2), (1, 2))


class PricesTest(unittest.TestCase):

    def check(self, table, value, kept):
        self.assertEqual(raised(p.need_prices, table, value), (InvalidPrices, kept))
        self.assertIs(p.is_prices(table, value), False)

    def test_prices(self):
        for table, value in ((RING, (0, 0, 0)), (RING, (3, 10 ** 12, 1)), (EMPTY, ())):
            self.assertEqual(raised(p.need_prices, table=table, value=value), (None, None))
            self.assertIs(p.is_prices(table=table, value=value), True)

    def test_no_prices(self):
        for value in (None, 3, [1, 2, 3], (1, 2), (1, 2, 3, 4), (), "abc", {}, (None, None)):
            self.check(RING, value, -1)
        for wrong in (-1, True, False, None, "1", (1, 1), [1], RING):
            self.check(RING, (wrong, wrong, 1), 0)
            self.check(RING, (0, wrong, wrong), 1)
            self.check(RING, (0, 1, wrong), 2)
        self.check(EMPTY, [], -1)

    def test_any_value(self):
        for value in ANY:
            for table in (EMPTY, RING):
                error, _ = raised(p.need_prices, table, value)
                self.assertIs(p.is_prices(table, value), error is None)
            self.assertIs(p.is_prices(Table((), ("x",), ()), (value,)), value in (0, 1) and type(value) is int
                          or value == 10 ** 4000 - 1)

    def test_price_at_and_repriced(self):
        self.assertEqual(check_call(self, p.price_at, table=RING, prices=(3, 2, 4), house="y"), 2)
        for at, house in enumerate("xyz"):
            wanted = [3, 2, 4]
            wanted[at] = 0
            self.assertEqual(check_call(self, p.repriced, table=RING, prices=(3, 2, 4), house=house, price=0),
                             tuple(wanted))


class PaymentsTest(unittest.TestCase):

    def check(self, value, kept, prices=(3, 2, 4)):
        self.assertEqual(raised(p.need_payments, RING, prices, value), (InvalidPayments, kept))
        self.assertIs(p.right_payments(RING, prices, value), False)

    def test_right_payments(self):
        for value in (((0, 1),) * 3, PAYS, ((3, 1), (0, 1), (1, 1))):
            self.assertEqual(raised(p.need_payments, table=RING, prices=(3, 2, 4), value=value), (None, None))
            self.assertIs(p.right_payments(table=RING, prices=(3, 2, 4), value=value), True)
        self.assertIs(p.right_payments(EMPTY, (), ()), True)

    def test_somebody_without_a_house_may_pay_anything(self):
        table = table_of("ab", "x", [("a", "x")])
        self.assertIs(p.right_payments(table, (0,), ((0, 1), (10 ** 50, 1))), True)
        self.assertEqual(raised(p.need_payments, table, (0,), ((1, 9), (1, 1))), (InvalidPayments, 2))

    def test_no_payments(self):
        for value in (None, 0, PAYS[:2], PAYS + PAYS, list(PAYS), (), "abc"):
            self.check(value, -1)
        for wrong in (0, (2, 4), (-1, 2), [1, 2], None, (True, 1), (1, 0), "1"):
            self.check((wrong, wrong, (0, 1)), 0)
            self.check(((9, 1), wrong, wrong), 1)
            self.check(((0, 1), (0, 1), wrong), 2)

    def test_overpaid_houses(self):
        self.check(((2, 1), (3, 2), (1, 2)), 3)
        self.check(((2, 1), (1, 1), (3, 2)), 4)
        self.check(((3, 1), (0, 1), (2, 1)), 5)
        self.check(((4, 1), (0, 1), (3, 1)), 3)
        self.check(((1, 1), (2, 1), (10 ** 50 + 1, 10 ** 50)), 4)
        self.assertIs(p.right_payments(RING, (0, 0, 0), ((0, 1), (0, 1), (0, 1))), True)

    def test_any_value(self):
        for value in ANY:
            for table in (EMPTY, RING):
                error, _ = raised(p.need_payments, table, (1,) * len(table.houses), value)
                self.assertIs(p.right_payments(table, (1,) * len(table.houses), value), error is None)
            self.assertEqual(raised(p.need_payments, Table(("a",), (), ()), (), (value,))[0],
                             None if value == (1, 2) and type(value) is tuple else InvalidPayments)

    def test_sums(self):
        dice = random.Random(3)
        for table in some_tables(4, 60):
            prices = random_prices(dice, table)
            pays = random_fractions(dice, len(table.people))
            worth = dict(zip(table.people, map(value_of, pays)))
            asked = [sum(worth[person] for person, other in table.pairs if other == house) for house in table.houses]
            self.assertEqual(check_call(self, p.sum_of, payments=pays), pair_of(sum(worth.values())))
            for house, sum_asked in zip(table.houses, asked):
                self.assertEqual(check_call(self, p.asked_of, table=table, payments=pays, house=house),
                                 pair_of(sum_asked))
            rest = [price - sum_asked for price, sum_asked in zip(prices, asked)]
            self.assertEqual(check_call(self, p.spares, table=table, prices=prices, payments=pays),
                             tuple(map(pair_of, rest)))
            self.assertIs(p.right_payments(table, prices, pays), min(rest, default=0) >= 0)
            wrong = [len(table.people) + at for at, one in enumerate(rest) if one < 0]
            self.assertEqual(raised(p.need_payments, table, prices, pays),
                             (InvalidPayments, wrong[0]) if wrong else (None, None))

    def test_empty(self):
        self.assertEqual((p.sum_of(()), p.spares(EMPTY, (), ()), p.spares(Table((), ("x",), ()), (4,), ())),
                         ((0, 1), (), ((4, 1),)))


if __name__ == "__main__":
    unittest.main()
