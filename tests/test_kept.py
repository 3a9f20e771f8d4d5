"""[73], [74] Kept tables."""

import itertools
import random
import unittest

from servedall import deeds as d
from servedall.apart import ring_table
from servedall.errors import InvalidPrices, InvalidSize, NoName, Refused
from servedall.kept import Kept
from servedall.openings import is_opening
from servedall.pieces import beside, pieces
from servedall.prices import right_payments
from servedall.tables import Table, is_servable, table_of
from servedall.ties import is_even
from support import (ANY, even_tables, is_plain, least_by_hand, openings_by_hand, price_by_hand, raised, random_prices,
                     ringless_tables, some_tables)

RING = table_of("abc", "xyz", [("a", "x"), ("a", "y"), ("b", "y"), ("b", "z"), ("c", "x"), ("c", "z")])
PATH = table_of("abc", "xyz", [("a", "x"), ("a", "y"), ("b", "y"), ("b", "z"), ("c", "z")])
LONE = Table(("a", "b"), ("x",), (("b", "x"),))
EMPTY = Table((), (), ())
CHANGES = {"come": d.person_put, "leave": d.person_gone, "build": d.house_put, "close": d.house_gone,
           "set_price": d.price_put}


def all_of(kept):
    return kept.table, kept.prices, kept.opening, kept.payments, kept.price


def price_of(table, prices):
    return least_by_hand(table, prices, table.people)


def random_change(dice, table):
    """The name of a change and its arguments, which may be wrong."""
    people, houses = table.people + ("q",), table.houses + ("q",)
    some = dice.sample(table.houses, dice.randint(0, len(table.houses)))
    names = dice.sample(table.people, dice.randint(0, min(3, len(table.people))))
    price = dice.choice((0, 1, 2, 3, 10, 100, -1))
    return dice.choice((("come", (dice.choice("abcdefgh"), some[:dice.choice((0, 1, 1, 2, 2, 3))])), ("leave", (dice.choice(people),)),
                        ("build", (dice.choice("rstuvwxyz"), names, price)), ("close", (dice.choice(houses),)),
                        ("set_price", (dice.choice(houses), price)), ("set_price", (dice.choice(houses), price))))


class KeptTest(unittest.TestCase):

    def check_kept(self, kept):
        """Whether all that is kept is right; nothing of it was kept from before."""
        table, prices, opening, payments, price = all_of(kept)
        self.assertTrue(is_plain(all_of(kept)))
        self.assertTrue(is_opening(table, opening))
        self.assertEqual(price_by_hand(table, prices, opening), price_of(table, prices))
        self.assertTrue(right_payments(table, prices, payments))
        self.assertTrue(all(bottom == 1 for _, bottom in payments))
        self.assertEqual((sum(top for top, _ in payments), price), (price_of(table, prices),) * 2)
        self.assertIs(type(price), int)
        self.assertEqual(Kept(table, prices).price, price)

    def check_stays(self, before, kept):
        """Whether, in each piece, what was right before is still there."""
        opened, paid = before[2], dict(zip(before[0].people, before[3]))
        prices = dict(zip(kept.table.houses, kept.prices))
        now = dict(zip(kept.table.people, kept.payments))
        stays = 0
        for piece in pieces(kept.table):
            costs = tuple(prices[house] for house in piece.houses)
            least = price_of(piece, costs)
            old = tuple(house for house in opened if house in piece.houses)
            if is_opening(piece, old) and price_by_hand(piece, costs, old) == least:
                self.assertEqual(tuple(house for house in kept.opening if house in piece.houses), old)
                stays += 1
            pays = tuple(paid.get(name, (0, 1)) for name in piece.people)
            if right_payments(piece, costs, pays) and sum(top for top, _ in pays) == least:
                self.assertEqual(tuple(now[name] for name in piece.people), pays)
                stays += 1
        return stays

    def check_change(self, kept, name, arguments):
        """A change beside the functions of the deeds; whether it was done."""
        before = all_of(kept)
        error, told = raised(CHANGES[name], kept.table, kept.prices, *arguments)
        if error is None:
            table, prices = told
            if not is_servable(table):
                error, told = Refused, "unserved"
            elif not is_even(table):
                error, told = Refused, "odd"
        if error is not None:
            self.assertEqual(raised(getattr(kept, name), *arguments), (error, told))
            self.assertEqual(all_of(kept), before)
            return False
        self.assertEqual(getattr(kept, name)(*arguments), price_of(table, prices) - before[4])
        self.assertEqual((kept.table, kept.prices), (table, prices))
        self.check_kept(kept)
        self.check_stays(before, kept)
        self.check_rise(before, kept, name, arguments)
        return True

    def check_rise(self, before, kept, name, arguments):
        rise = kept.price - before[4]
        if name == "come":
            cheapest = min(price for house, price in zip(kept.table.houses, kept.prices) if house in arguments[1])
            self.assertTrue(0 <= rise <= cheapest)
        elif name == "build":
            self.assertLessEqual(rise, 0)
        elif name == "set_price":
            dearer = arguments[1] - before[1][before[0].houses.index(arguments[0])]
            self.assertTrue(min(0, dearer) <= rise <= max(0, dearer))
        elif name == "close":
            self.assertGreaterEqual(rise, 0)
        else:
            self.assertLessEqual(rise, 0)

    def test_example(self):
        kept = Kept(PATH, (2, 3, 4))
        self.assertEqual((kept.opening, kept.price, kept.set_price("y", 1), kept.opening, kept.come("d", ["x"])),
                         (("x", "z"), 6, -1, ("y", "z"), 1))
        self.assertEqual((kept.leave("c"), kept.opening, kept.payments[2:], kept.prices), (-3, ("x", "y"), ((2, 1),), (2, 1, 4)))

    def test_beginnings(self):
        dice = random.Random(1)
        for table in itertools.chain(even_tables(2, 40), ringless_tables(3, 40), some_tables(4, 60, servable=True),
                                     [EMPTY, Table((), ("x",), ()), PATH, ring_table(8)]):
            prices = random_prices(dice, table)
            if not openings_by_hand(table):
                self.assertEqual(raised(Kept, table=table, prices=prices), (Refused, "unserved"))
            elif not is_even(table):
                self.assertEqual(raised(Kept, table=table, prices=prices), (Refused, "odd"))
            else:
                self.check_kept(Kept(table=table, prices=prices))
                self.assertEqual(all_of(Kept(table, prices)), all_of(Kept(table, prices)))

    def test_rows_of_changes(self):
        done = {name: 0 for name in CHANGES}
        for seed in range(40):
            dice = random.Random(seed)
            table = dice.choice((EMPTY, PATH, ring_table(4), next(even_tables(seed, 1, most=5))))
            if not is_servable(table):
                continue
            kept = Kept(table, random_prices(dice, table))
            for _ in range(40):
                name, arguments = random_change(dice, kept.table)
                if len(kept.table.people) < 7 or name != "come":
                    done[name] += self.check_change(kept, name, arguments)
        self.assertGreater(min(done.values()), 50)

    def test_what_stays(self):
        # Two pieces with ties between openings, and between payments: what is changed in the one leaves the other alone.
        other = table_of("pqrs", "ijkl", [("p", "i"), ("p", "j"), ("q", "j"), ("q", "k"), ("r", "k"), ("r", "l"), ("s", "l"), ("s", "i")])
        for seed in range(20):
            dice = random.Random(seed)
            kept = Kept(beside(PATH, other), (2, 2, 2, 2, 2, 3, 4))
            for _ in range(25):
                before = all_of(kept)
                change, arguments = dice.choice((("set_price", ("x", dice.randint(0, 5))), ("set_price", ("z", dice.randint(0, 5))),
                                                 ("come", ("d", dice.choice((["x"], ["y"], ["z", "y"])))), ("leave", ("d",)),
                                                 ("close", ("w",)), ("build", ("w", dice.sample("abc", 1), dice.randint(0, 5)))))
                self.check_change(kept, change, arguments)
                for at, house in ((2, "ijkl"), (3, "pqrs")):
                    names = before[0].people if at == 3 else before[2]
                    then = {name: one for name, one in zip(names, before[at]) if name in house}
                    names = kept.table.people if at == 3 else kept.opening
                    self.assertEqual({name: one for name, one in zip(names, all_of(kept)[at]) if name in house}, then)

    def test_least_openings_stay(self):
        # A price that makes another opening as cheap changes nothing; one below does.
        kept = Kept(PATH, (2, 3, 4))
        payments = kept.payments
        self.assertEqual((kept.set_price("y", 2), kept.opening), (0, ("x", "z")))
        self.assertEqual((kept.set_price("y", 3), kept.opening), (0, ("x", "z")))
        self.assertEqual((kept.set_price("y", 9), kept.opening, kept.payments), (0, ("x", "z"), payments))
        # A house that serves nobody and is free stays out; somebody new who is served pays 0.
        self.assertEqual((kept.build("w", [], 0), kept.opening), (0, ("x", "z")))
        self.assertEqual((kept.come("d", ["z", "y"]), kept.opening, kept.payments), (0, ("x", "z"), payments + ((0, 1),)))
        self.assertEqual((kept.leave("d"), kept.payments), (0, payments))

    def test_whoever_comes_again_pays_nothing_first(self):
        one = table_of("a", "x", [("a", "x")])
        kept = Kept(one, (5,))
        self.assertEqual((kept.payments, kept.leave("a"), kept.payments, kept.opening), (((5, 1),), -5, (), ()))
        self.assertEqual((kept.set_price("x", 0), kept.come("a", ["x"]), kept.payments, kept.opening), (0, 0, ((0, 1),), ("x",)))
        self.assertEqual((kept.leave("a"), kept.opening), (0, ("x",)))
        self.assertEqual((kept.set_price("x", 4), kept.opening), (0, ()))

    def test_turned_back(self):
        kept = Kept(PATH, (2, 3, 4))
        for there, back in ((("come", ("d", ("y",))), ("leave", ("d",))), (("build", ("w", ("a", "b", "c"), 1)), ("close", ("w",))),
                            (("set_price", ("z", 100)), ("set_price", ("z", 4))),
                            (("leave", ("c",)), ("come", ("c", ("z",))))):
            rise = getattr(kept, there[0])(*there[1])
            self.assertEqual(getattr(kept, back[0])(*back[1]), -rise)
            self.assertEqual((kept.price, kept.table, kept.prices), (6, PATH, (2, 3, 4)))

    def test_by_names(self):
        kept = Kept(prices=(2, 3, 4), table=PATH)
        houses, people = ["x"], ["a"]
        self.assertEqual((kept.come(houses=houses, person="d"), kept.build(price=0, people=people, house="w"),
                          kept.set_price(price=3, house="x"), kept.close(house="w"), kept.leave(person="d")), (0, 0, 1, 0, 0))
        self.assertEqual((houses, people), (["x"], ["a"]))
        kept.come("d", houses)
        houses.append("z")
        self.assertEqual(kept.table.pairs[-1], ("d", "x"))

    def test_what_was_told_stays(self):
        kept = Kept(PATH, (2, 3, 4))
        told = all_of(kept)
        kept.come("d", ["x"])
        kept.set_price("x", 9)
        self.assertEqual(told[:3] + told[4:], (PATH, (2, 3, 4), ("x", "z"), 6))
        self.assertEqual((PATH.people, len(PATH.pairs)), (("a", "b", "c"), 5))


class ErrorTest(unittest.TestCase):

    def test_beginning(self):
        for prices in (None, (1, 1), [1, 1, 1], (1, 1, 1, 1), "abc"):
            for table in (RING, LONE, PATH):
                self.assertEqual(raised(Kept, table=table, prices=prices), (InvalidPrices, -1))
        for wrong in (-1, True, None, "1", (1, 1)):
            self.assertEqual(raised(Kept, RING, (1, wrong, wrong)), (InvalidPrices, 1))
        self.assertEqual(raised(Kept, table_of("abcd", "xyz", RING.pairs), (1, 1, 1)), (Refused, "unserved"))
        self.assertEqual(raised(Kept, RING, (1, 1, 2)), (Refused, "odd"))
        for value in ANY:
            self.assertEqual(raised(Kept, RING, value), (InvalidPrices, 0 if isinstance(value, tuple) and len(value) == 3 else -1))

    def test_changes(self):
        kept = Kept(PATH, (2, 3, 4))
        told = all_of(kept)
        for call, arguments, wanted in (
                (kept.come, ("", ()), (InvalidSize, "person")), (kept.come, (None, ()), (InvalidSize, "person")),
                (kept.come, ("a", ()), (Refused, "name")), (kept.come, ("d", ()), (Refused, "unserved")),
                (kept.come, ("d", ("x", "z")), (Refused, "odd")), (kept.leave, ("d",), (NoName, "d")),
                (kept.leave, (["a"],), (NoName, ["a"])), (kept.leave, ("x",), (NoName, "x")),
                (kept.build, ("A", (), -1), (InvalidSize, "house")), (kept.build, ("x", (), -1), (Refused, "name")),
                (kept.build, ("w", (), True), (InvalidSize, "price")), (kept.build, ("w", ("a", "c"), 0), (Refused, "odd")),
                (kept.close, ("w",), (NoName, "w")), (kept.close, ("z",), (Refused, "unserved")),
                (kept.set_price, ("w", -1), (NoName, "w")), (kept.set_price, (None, None), (NoName, None)),
                (kept.set_price, ("x", -1), (InvalidSize, "price")), (kept.set_price, ("x", None), (InvalidSize, "price"))):
            self.assertEqual(raised(call, *arguments), wanted)
            self.assertEqual(all_of(kept), told)
        self.check_unserved_first()

    def check_unserved_first(self):
        # Behind it somebody has no house, and an odd ring is left as well.
        table = table_of("abcde", "wxyz", list(RING.pairs) + [("a", "z"), ("d", "w")])
        kept = Kept(table_of("bcde", "wxyz", [pair for pair in table.pairs if pair[0] != "a"] + [("e", "w")]), (1, 1, 1, 1))
        self.assertEqual(raised(kept.come, "a", ("x", "y")), (Refused, "odd"))
        self.assertEqual(raised(kept.close, "w"), (Refused, "unserved"))

    def test_any_value(self):
        kept = Kept(PATH, (2, 3, 4))
        told = all_of(kept)
        for value in ANY:
            if not (isinstance(value, str) and value in ("a", "abcdefgh")):
                for call in (lambda: kept.come(value, ()), lambda: kept.build(value, (), 1), lambda: kept.leave(value),
                             lambda: kept.close(value), lambda: kept.set_price(value, 1)):
                    self.assertIsNotNone(raised(call)[0])
            if type(value) is not int or value < 0:
                self.assertEqual(raised(kept.set_price, "x", value), (InvalidSize, "price"))
                self.assertEqual(raised(kept.build, "w", (), value), (InvalidSize, "price"))
        self.assertEqual(all_of(kept), told)


if __name__ == "__main__":
    unittest.main()
