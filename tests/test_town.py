"""[75], [76], [77], [78], [79] Towns."""

import copy
import itertools
import random
import unittest

from plain import NO_CALLS, Account, random_call
from servedall import town as t
from servedall.apart import ring_table
from servedall.errors import Refused
from servedall.evenness import check_even
from servedall.openings import is_opening
from servedall.parting import gap_of
from servedall.passes import is_straight_paper
from servedall.prices import right_payments
from servedall.rings import is_odd_ring
from servedall.settling import least_shares
from servedall.tables import Table, table_of, without
from servedall.town import Town
from support import (ANY, check_call, even_tables, is_plain, least_by_hand, openings_by_hand, price_by_hand, raised,
                     random_prices, random_table, ringless_tables, rings_by_hand, some_tables, subsets, tables_of_size,
                     value_of)

RING = table_of("abc", "xyz", [("a", "x"), ("a", "y"), ("b", "y"), ("b", "z"), ("c", "x"), ("c", "z")])
PATH = table_of("abc", "xyz", [("a", "x"), ("a", "y"), ("b", "y"), ("b", "z"), ("c", "z")])
EMPTY = Table((), (), ())
KINDS = ("ringless", "even", "odd")
FIRST = ("batch", (("house", "h", 2), ("house", "i", 3), ("person", "a", ("h", "i")), ("person", "b", ("i",))))


def town_of(table, prices):
    """A town with a table and its prices."""
    town = Town()
    deeds = [("house", house, price) for house, price in zip(table.houses, prices)]
    deeds += [("person", name, tuple(house for other, house in table.pairs if other == name)) for name in table.people]
    assert all(town.do(deed) == "done" for deed in deeds)
    return town


def told(town):
    """All that a town tells at once."""
    return (town.table_now(), town.prices_now(), town.unserved_now(), town.calls(), town.depth())


def kind_by_hand(table):
    sizes = [len(people) % 2 for people, _ in rings_by_hand(table)]
    return "ringless" if not sizes else "odd" if 1 in sizes else "even"


class DeedTest(unittest.TestCase):

    def setUp(self):
        self.town = Town()
        self.assertEqual(self.town.do(FIRST), "done")

    def check(self, call, word, people=None, houses=None, pairs=None, prices=None):
        """The word of a call, and what has changed behind it."""
        before = told(self.town)
        self.assertEqual(self.town.do(call), word, call)
        if word != "done":
            self.assertEqual(told(self.town), before)
            return
        self.assertEqual(self.town.table_now(), table_of(people, houses, pairs))
        self.assertEqual(self.town.prices_now(), prices)
        self.assertEqual(self.town.calls(), before[3] + (call,))
        self.assertEqual(self.town.depth(), (before[4][0] + 1, 0))

    def test_nothing(self):
        town = Town()
        self.assertEqual(told(town), (EMPTY, (), (), (), (0, 0)))
        self.assertEqual((town.kind_now(), town.both_now(), town.gap_now()), (("ringless", ((), ())), ((), ()), (0, 1)))
        self.assertEqual(town.do(("undo",)), "nothing")
        self.assertEqual(town.do(("redo",)), "nothing")
        self.assertEqual(town.do(("batch", ())), "nothing")
        self.assertEqual(told(town), (EMPTY, (), (), (), (0, 0)))

    def test_example(self):
        town = self.town
        self.assertEqual((town.kind_now()[0], town.opening_now(), town.gap_now(), town.do(("leave", "c")),
                          town.do(("serve", "a", "i", True))), ("ringless", ("i",), (0, 1), "name", "nothing"))
        self.assertEqual((town.do(("serve", "b", "i", False)), town.unserved_now(), town.do(("undo",)), town.depth()),
                         ("done", ("b",), "done", (1, 1)))

    def test_houses(self):
        pairs = [("a", "h"), ("a", "i"), ("b", "i")]
        self.check(("house", "h", 2), "name")
        self.check(("house", "h", 9), "name")
        self.check(("close", "a"), "name")
        self.check(("close", "j"), "name")
        self.check(("price", "a", 1), "name")
        self.check(("price", "h", 2), "nothing")
        self.check(("house", "a", 0), "done", "ab", "ahi", pairs, (0, 2, 3))
        self.check(("price", "a", 7), "done", "ab", "ahi", pairs, (7, 2, 3))
        self.check(("price", "h", 0), "done", "ab", "ahi", pairs, (7, 0, 3))
        self.check(("house", "zz", 4), "done", "ab", ["a", "h", "i", "zz"], pairs, (7, 0, 3, 4))
        self.check(("close", "i"), "done", "ab", ["a", "h", "zz"], [("a", "h")], (7, 0, 4))
        self.check(("close", "a"), "done", "ab", ["h", "zz"], [("a", "h")], (0, 4))

    def test_people(self):
        pairs = [("a", "h"), ("a", "i"), ("b", "i")]
        self.check(("person", "a", ("q",)), "name")
        self.check(("person", "a", ("h", "i")), "name")
        self.check(("person", "c", ("h", "q")), "house")
        self.check(("leave", "h"), "name")
        self.check(("leave", "c"), "name")
        self.check(("person", "h", ("i", "h")), "done", "abh", "hi", pairs + [("h", "h"), ("h", "i")], (2, 3))
        self.check(("person", "c", ()), "done", "abch", "hi", pairs + [("h", "h"), ("h", "i")], (2, 3))
        self.assertEqual(self.town.unserved_now(), ("c",))
        self.check(("leave", "h"), "done", "abc", "hi", pairs, (2, 3))
        self.check(("leave", "a"), "done", "bc", "hi", pairs[2:], (2, 3))

    def test_serve(self):
        pairs = [("a", "h"), ("a", "i"), ("b", "i")]
        for flag in (True, False):
            self.check(("serve", "c", "q", flag), "name")
            self.check(("serve", "h", "h", flag), "name")
            self.check(("serve", "a", "q", flag), "house")
            self.check(("serve", "a", "a", flag), "house")
        self.check(("serve", "a", "h", True), "nothing")
        self.check(("serve", "b", "h", False), "nothing")
        self.check(("serve", "b", "h", True), "done", "ab", "hi", pairs + [("b", "h")], (2, 3))
        self.check(("serve", "a", "i", False), "done", "ab", "hi", [("a", "h"), ("b", "h"), ("b", "i")], (2, 3))

    def test_batches(self):
        pairs = [("a", "h"), ("a", "i"), ("b", "i")]
        self.check(("batch", ()), "nothing")
        self.check(("batch", (("price", "h", 2), ("serve", "a", "h", True))), "nothing")
        self.check(("batch", (("price", "h", 5), ("price", "h", 2))), "nothing")
        self.check(("batch", (("house", "j", 1), ("person", "c", ("j",)), ("leave", "c"), ("close", "j"))), "nothing")
        self.check(("batch", (("close", "h"), ("house", "h", 2), ("serve", "a", "h", True))), "nothing")
        self.check(("batch", (("house", "j", 1), ("serve", "a", "q", True), ("leave", "q"))), "house")
        self.check(("batch", (("house", "j", 1), ("leave", "q"), ("serve", "a", "q", True))), "name")
        self.check(("batch", (("price", "h", 2), ("close", "h"), ("close", "h"))), "name")
        self.check(("batch", (("leave", "a"), ("leave", "b"), ("person", "b", ("h", "j")))), "house")
        self.check(("batch", (("price", "h", 2), ("price", "i", 4))), "done", "ab", "hi", pairs, (2, 4))
        self.check(("batch", (("close", "h"), ("house", "h", 2))), "done", "ab", "hi", pairs[1:], (2, 4))
        self.check(("batch", (("leave", "b"),)), "done", "a", "hi", pairs[1:2], (2, 4))

    def test_undo_and_redo(self):
        town = self.town
        states = [told(town)[:4]]
        for call in (("close", "h"), ("batch", (("leave", "a"), ("person", "d", ("i",)))), ("price", "i", 9)):
            town.do(call)
            states.append(told(town)[:4])
        for left in (2, 1, 0):
            self.assertEqual(town.do(("undo",)), "done")
            self.assertEqual((told(town)[:4], town.depth()), (states[left], (left + 1, 3 - left)))
        self.assertEqual((town.do(("undo",)), town.do(("undo",)), town.table_now(), town.depth()),
                         ("done", "nothing", EMPTY, (0, 4)))
        for done in (0, 1, 2, 3):
            self.assertEqual(town.do(("redo",)), "done")
            self.assertEqual((told(town)[:4], town.depth()), (states[done], (done + 1, 3 - done)))
        self.assertEqual((town.do(("redo",)), town.depth()), ("nothing", (4, 0)))

    def test_a_call_behind_an_undo(self):
        town = self.town
        town.do(("price", "h", 5))
        town.do(("undo",))
        # What is not done leaves what can be redone.
        for call in (("price", "h", 2), ("leave", "q"), ("serve", "a", "q", True), ("batch", ()), None, ["redo"]):
            town.do(call)
            self.assertEqual(town.depth(), (1, 1))
        self.assertEqual((town.do(("price", "i", 4)), town.depth(), town.do(("redo",))), ("done", (2, 0), "nothing"))
        self.assertEqual((town.calls(), town.prices_now()), ((FIRST, ("price", "i", 4)), (2, 4)))

    def test_no_calls(self):
        before = told(self.town)
        for value in NO_CALLS + ANY:
            word = self.town.do(call=value)
            if value in (("undo",), ("batch", ())) and isinstance(value, tuple):
                self.assertEqual(word, "done" if value == ("undo",) else "nothing")
                self.town.do(("redo",))
            else:
                self.assertEqual(word, "call", value)
            self.assertEqual(told(self.town), before)
        for value in ANY:
            for call in (("house", value, 1), ("house", "k", value), ("close", value), ("price", "h", value), (value, "h"),
                         ("person", value, ()), ("person", "c", value), ("person", "c", (value,)), ("leave", value),
                         ("serve", value, "h", True), ("serve", "a", value, True), ("serve", "a", "h", value),
                         ("batch", value), ("batch", (value,)), ("batch", (("leave", "a"), value)), (value,), (value, value)):
                twin = self.town.twin()
                self.assertIn(twin.do(call), ("call", "name", "house", "nothing", "done"))
                self.assertEqual(twin.do(("serve", "q", "q", value)), "name" if isinstance(value, bool) else "call")
        self.assertEqual(told(self.town), before)

    def test_call_comes_first(self):
        # What is no call is told so, whatever else is wrong.
        for call in (("house", "h", -1), ("person", "a", ("q", "q")), ("serve", "q", "q", 1), ("price", "q", None),
                     ("batch", (("leave", "q"), ("leave", None))), ("close", "Q")):
            self.assertEqual(self.town.do(call), "call")


class RowTest(unittest.TestCase):

    def check_state(self, town, account):
        plain = account.now()
        table = plain.table()
        self.assertEqual(told(town), (table, plain.costs(), tuple(sorted(n for n, own in plain.people.items() if not own)),
                                      tuple(account.done), (len(account.done), len(account.undone))))
        self.assertTrue(is_plain(told(town)[:3]))

    def test_rows_of_calls(self):
        words = {}
        for seed in range(60):
            dice = random.Random(seed)
            town, account, before = Town(), Account(), []
            for _ in range(40):
                call = random_call(dice)
                held = copy.deepcopy(call)
                before.append((told(town), copy.deepcopy(told(town))))
                word = town.do(call)
                self.assertEqual((word, call), (account.do(call), held))
                self.check_state(town, account)
                words[word] = words.get(word, 0) + 1
            # What was told does not change later.
            self.assertTrue(all(one == other for one, other in before))
        self.assertEqual(set(words), {"done", "name", "house", "nothing"})
        self.assertGreater(min(words.values()), 50)

    def test_twins(self):
        for seed in range(30):
            dice = random.Random(seed)
            town, account = Town(), Account()
            for _ in range(15):
                call = random_call(dice)
                town.do(call)
                account.do(call)
            twin, other = town.twin(), copy.deepcopy(account)
            self.check_state(twin, other)
            for _ in range(25):
                call = random_call(dice)
                if dice.random() < 0.5:
                    self.assertEqual(town.do(call), account.do(call))
                else:
                    self.assertEqual(twin.do(call), other.do(call))
                self.check_state(town, account)
                self.check_state(twin, other)

    def test_a_twin_redoes_alone(self):
        town = Town()
        for call in (FIRST, ("price", "h", 5), ("undo",)):
            town.do(call)
        twin = town.twin()
        self.assertEqual((twin.do(("redo",)), twin.depth(), twin.prices_now()), ("done", (2, 0), (5, 3)))
        self.assertEqual((town.depth(), town.prices_now(), town.do(("leave", "a")), town.do(("redo",))), ((1, 1), (2, 3), "done", "nothing"))
        self.assertEqual((twin.do(("undo",)), twin.do(("undo",)), twin.depth(), town.calls()), ("done", "done", (0, 2), (FIRST, ("leave", "a"))))


class KindTest(unittest.TestCase):

    def check_kind(self, table):
        kind = check_call(self, t.kind_of, table=table)
        self.assertEqual((len(kind), kind[0]), (2, kind_by_hand(table)), table.pairs)
        if kind[0] == "ringless":
            self.assertIs(is_straight_paper(table, kind[1]), True)
        elif kind[0] == "even":
            self.assertIs(check_even(table, kind[1]), True)
        else:
            self.assertIn(kind[1], rings_by_hand(table))
            self.assertEqual(len(kind[1][0]) % 2, 1)
        return kind[0]

    def test_all_small_tables(self):
        kinds = {word: 0 for word in KINDS}
        for table in itertools.chain(tables_of_size(3, 3), some_tables(1, 100), even_tables(2, 40), ringless_tables(3, 40),
                                     [EMPTY, RING, PATH, ring_table(4), ring_table(5), ring_table(6)]):
            kinds[self.check_kind(table)] += 1
        self.assertGreater(min(kinds.values()), 3)

    def test_never_worse(self):
        for table in some_tables(4, 80):
            kind = KINDS.index(t.kind_of(table)[0])
            for people in subsets(table.people):
                if len(people) == 1:
                    self.assertLessEqual(KINDS.index(t.kind_of(without(table, people, ()))[0]), kind)
            for house in table.houses:
                self.assertLessEqual(KINDS.index(t.kind_of(without(table, (), (house,)))[0]), kind)

    def test_limits(self):
        dice = random.Random(5)
        for density in (0.1, 0.15, 0.3, 0.6, 0.9):
            table = random_table(dice, 12, 8, density)
            word, paper = t.kind_of(table)
            self.assertIs({"ringless": is_straight_paper, "even": check_even, "odd": is_odd_ring}[word](table, paper), True)


class BothTest(unittest.TestCase):

    def check_both(self, table, prices, kind):
        opening, payments = check_call(self, t.both_of, table=table, prices=prices, kind=kind)
        self.assertTrue(is_opening(table, opening))
        self.assertEqual(price_by_hand(table, prices, opening), least_by_hand(table, prices, table.people))
        self.assertTrue(right_payments(table, prices, payments))
        greatest = sum(map(value_of, payments))
        self.assertEqual(greatest, sum(map(value_of, least_shares(table, prices)[1])))
        town = town_of(table, prices)
        self.assertEqual(town.kind_now(), t.kind_of(table))
        self.assertEqual(town.both_now(), (town.opening_now(), town.payments_now()))
        self.assertTrue(is_plain(town.both_now()))
        self.assertEqual(town.opening_now(), town.opening_now())
        self.assertEqual((price_by_hand(table, prices, town.opening_now()), sum(map(value_of, town.payments_now()))),
                         (price_by_hand(table, prices, opening), greatest))
        self.assertTrue(is_opening(table, town.opening_now()) and right_payments(table, prices, town.payments_now()))
        self.assertEqual(value_of(town.gap_now()), price_by_hand(table, prices, opening) - greatest)
        return town.gap_now()

    def test_all_kinds(self):
        dice = random.Random(6)
        gaps = 0
        for table in itertools.chain(tables_of_size(2, 3), some_tables(7, 80, servable=True), even_tables(8, 40),
                                     ringless_tables(9, 40), [EMPTY, RING, PATH, ring_table(5), ring_table(6)]):
            if openings_by_hand(table):
                kind = kind_by_hand(table)
                for prices in (random_prices(dice, table), (1,) * len(table.houses)):
                    gap = self.check_both(table, prices, kind)
                    self.assertTrue(gap == (0, 1) or kind == "odd" and gap[0] > 0)
                    gaps += gap != (0, 1)
        self.assertGreater(gaps, 3)

    def test_odd_rings_part_at_some_prices(self):
        for table in some_tables(10, 40, servable=True):
            kind, ring = t.kind_of(table)
            if kind == "odd":
                part = Table(tuple(sorted(ring[0])), tuple(sorted(ring[1])), tuple(
                    pair for pair in table.pairs if pair[0] in ring[0] and pair[1] in ring[1]))
                gap = self.check_both(part, (1,) * len(ring[0]), "odd")
                price, total = gap_of(table, ring)
                self.assertEqual(value_of(gap), value_of(price) - value_of(total))

    def test_twelve(self):
        dice = random.Random(11)
        for density in (0.1, 0.2, 0.5):
            table = random_table(dice, 12, 8, density, servable=True)
            self.check_both(table, tuple(dice.randint(0, 10 ** 6 - 1) for _ in range(8)), t.kind_of(table)[0])

    def test_unserved(self):
        town = town_of(PATH, (2, 3, 4))
        town.do(("person", "d", ()))
        before = told(town)
        for call in (town.both_now, town.opening_now, town.payments_now, town.gap_now):
            self.assertEqual(raised(call), (Refused, "unserved"))
        self.assertEqual((told(town), town.kind_now()[0]), (before, "ringless"))
        even = town_of(ring_table(4), (1, 1, 1, 1))
        even.do(("person", "e", ()))
        self.assertEqual((raised(even.both_now), raised(even.gap_now), even.kind_now()[0]), ((Refused, "unserved"),) * 2 + ("even",))
        odd = town_of(RING, (1, 1, 1))
        odd.do(("person", "d", ()))
        self.assertEqual((raised(odd.gap_now), odd.kind_now()[0]), ((Refused, "unserved"), "odd"))

    def test_changes(self):
        # A price that rises by so much raises the least price by no more; more people never lower it, more houses never raise it.
        for seed in range(20):
            dice = random.Random(seed)
            town = Town()
            for _ in range(40):
                before = (town.prices_now(), None if town.unserved_now() else town.opening_now(), town.table_now())
                call = random_call(dice)
                word = town.do(call)
                if word != "done" or town.unserved_now() or before[1] is None:
                    continue
                rise = price_by_hand(town.table_now(), town.prices_now(), town.opening_now()) - price_by_hand(before[2], before[0], before[1])
                if call[0] == "price":
                    more = sum(town.prices_now()) - sum(before[0])
                    self.assertTrue(min(0, more) <= rise <= max(0, more))
                elif call[0] in ("person", "close") or call[0] == "serve" and not call[3]:
                    self.assertGreaterEqual(rise, 0)
                elif call[0] in ("leave", "house", "serve"):
                    self.assertLessEqual(rise, 0)


if __name__ == "__main__":
    unittest.main()
