"""[80], [81] Runs of calls, and whole papers."""

import itertools
import random
import unittest

from plain import NO_CALLS, Account, random_call
from servedall import townruns as r
from servedall.apart import ring_table
from servedall.commands import is_call
from servedall.errors import Refused
from servedall.evenness import even_paper
from servedall.middle import best
from servedall.orders import straight_order
from servedall.settling import least_shares
from servedall.tables import Table, table_of
from servedall.ties import odd_ring
from servedall.town import kind_of
from support import (ANY, check_call, even_tables, is_plain, least_by_hand, openings_by_hand, raised, random_prices,
                     ringless_tables, rings_by_hand, some_tables, tables_of_size, value_of)

RING = table_of("abc", "xyz", [("a", "x"), ("a", "y"), ("b", "y"), ("b", "z"), ("c", "x"), ("c", "z")])
FOUR = table_of("abcd", "wxyz", [("a", "w"), ("a", "x"), ("b", "x"), ("b", "y"), ("c", "y"), ("c", "z"), ("d", "z"), ("d", "w")])
PATH = table_of("abc", "xyz", [("a", "x"), ("a", "y"), ("b", "y"), ("b", "z"), ("c", "z")])
EMPTY = Table((), (), ())


class RunTest(unittest.TestCase):

    def test_example(self):
        self.assertEqual(r.run([("house", "h", 4), ("person", "a", ("h",)), "close"])[1:],
                         ((("person", "a", ("h",)), "done", "ringless", (4, (4, 1))), ("close", "call", "ringless", (4, (4, 1)))))
        self.assertEqual(r.run([]), ())
        self.assertEqual(r.run(calls=(("undo",), ("person", "a", ()))),
                         ((("undo",), "nothing", "ringless", (0, (0, 1))), (("person", "a", ()), "done", "ringless", None)))

    def check_row(self, account, call, row):
        word = account.do(call) if is_call(call) else "call"
        plain = account.now()
        table, prices = plain.table(), plain.costs()
        least = least_by_hand(table, prices, table.people)
        sizes = [len(people) % 2 for people, _ in rings_by_hand(table)]
        kind = "ringless" if not sizes else "odd" if 1 in sizes else "even"
        self.assertEqual(row[:3], (call, word, kind))
        self.assertIs(row[0], call)
        self.assertEqual(len(row), 4)
        if least is None:
            self.assertIsNone(row[3])
        else:
            self.assertTrue(is_plain(row[3]) and type(row[3][0]) is int)
            self.assertEqual((row[3][0], value_of(row[3][1])), (least, sum(map(value_of, least_shares(table, prices)[1]))))
        return kind

    def test_runs(self):
        kinds = set()
        first = [("batch", tuple(("house", house, 1) for house in "wxyz") + tuple(
            ("person", name, tuple(h for one, h in table.pairs if one == name)) for name in table.people)) for table in (RING, FOUR, PATH)]
        for seed in range(30):
            dice = random.Random(seed)
            calls = [dice.choice(first)] + [dice.choice(NO_CALLS) if dice.random() < 0.1 else random_call(dice, houses="xyzw", people="abcd")
                                            for _ in range(39)]
            rows = r.run(calls)
            self.assertIsInstance(rows, tuple)
            self.assertEqual(rows, r.run(tuple(calls)))
            self.assertEqual(len(rows), len(calls))
            account = Account()
            kinds |= {self.check_row(account, call, row) for call, row in zip(calls, rows)}
        self.assertEqual(kinds, {"ringless", "even", "odd"})

    def test_any_values(self):
        rows = r.run(ANY)
        for value, row in zip(ANY, rows):
            self.assertIs(row[0], value)
            self.assertEqual(row[1:], ("nothing" if is_call(value) else "call", "ringless", (0, (0, 1))))
        lists = [["house", "h", 4], ("house", "h", 4)]
        self.assertEqual(r.run(lists), ((["house", "h", 4], "call", "ringless", (0, (0, 1))), (("house", "h", 4), "done", "ringless", (0, (0, 1)))))
        self.assertEqual(lists, [["house", "h", 4], ("house", "h", 4)])


class PaperTest(unittest.TestCase):

    def check_case(self, table, prices):
        call = {"table": table, "prices": prices}
        if not openings_by_hand(table):
            self.assertEqual(raised(r.whole_paper, **call), (Refused, "unserved"))
            return None
        paper = check_call(self, r.whole_paper, **call)
        self.assertEqual(paper[:2], kind_of(table))
        self.assertEqual(len(paper), 2 if paper[0] == "odd" else 4)
        if paper[0] != "odd":
            self.assertEqual(sum(map(value_of, paper[3])), least_by_hand(table, prices, table.people))
        self.assertIs(check_call(self, r.check_whole_paper, **call, value=paper), True)
        return paper

    def papers(self, table, prices):
        """All that could be put together to a whole paper, with what belongs to it."""
        papers = [("ringless", straight_order(table)), ("odd", odd_ring(table))]
        papers.append(("even", even_paper(table) if odd_ring(table) is None else ()))
        made = best(table, prices) if odd_ring(table) is None else None
        for paper in papers:
            yield paper, paper[0] == "odd" and paper[1] is not None
            if made is not None:
                yield paper + (made.opening, made.payments), paper[0] != "odd" and paper[1] is not None

    def test_all_kinds(self):
        dice = random.Random(1)
        words = {}
        for table in itertools.chain(tables_of_size(3, 3), some_tables(2, 80, servable=True), even_tables(3, 40), ringless_tables(4, 40),
                                     [EMPTY, Table((), ("x",), ()), RING, FOUR, ring_table(4), ring_table(5), ring_table(6)]):
            prices = random_prices(dice, table)
            paper = self.check_case(table, prices)
            if paper is not None:
                words[paper[0]] = words.get(paper[0], 0) + 1
                for value, wanted in self.papers(table, prices):
                    self.assertIs(r.check_whole_paper(table=table, prices=prices, value=value), wanted, (table.pairs, value))
        self.assertGreater(min(words.get(word, 0) for word in ("ringless", "even", "odd")), 3)

    def test_wrong_papers(self):
        prices = (2, 3, 4)
        pays = ((2, 1), (1, 1), (3, 1))
        order = (("a", "b", "c"), ("x", "y", "z"))
        good = ("ringless", order, ("x", "z"), pays)
        self.assertIs(r.check_whole_paper(PATH, prices, good), True)
        even = even_paper(PATH)
        self.assertIs(r.check_whole_paper(PATH, prices, ("even", even, ("x", "z"), pays)), True)
        for value in (list(good), good[:2], good[:3], good + ((),), ("odd",) + good[1:], ("even",) + good[1:], ("ringless", even) + good[2:],
                      ("ringless", order[::-1]) + good[2:], ("ringless", (("a", "c", "b"), ("z", "y", "x"))) + good[2:], good[:2] + (("x", "y", "z"), pays),
                      good[:2] + (["x", "z"], pays), good[:3] + (list(pays),), good[:3] + (((2, 1), (1, 1), (2, 1)),), good[:3] + (((3, 1), (1, 1), (2, 1)),),
                      ("Ringless",) + good[1:], ("Even", even) + good[2:],
                      ("odd", even) + good[2:], (None, even) + good[2:], (None,) + good[1:], ("odd", order), ("even", even), None):
            self.assertIs(r.check_whole_paper(PATH, prices, value), False, value)
        ring = (("a", "b", "c"), ("y", "z", "x"))
        self.assertIs(r.check_whole_paper(RING, prices, ("odd", ring)), True)
        for value in (("odd", ring[::-1]), ["odd", ring], ("odd", list(ring)), ("odd",), ("odd", ring, ("x", "y"), ((1, 1),) * 3), ("ring", ring), ("even", ring)):
            self.assertIs(r.check_whole_paper(RING, prices, value), False)
        four = (("a", "b", "c", "d"), ("x", "y", "z", "w"))
        self.assertIs(r.check_whole_paper(FOUR, (1,) * 4, ("odd", four)), False)

    def test_any_value(self):
        good = r.whole_paper(PATH, (2, 3, 4))
        for value in ANY:
            self.assertIs(r.check_whole_paper(PATH, (2, 3, 4), value), False)
            self.assertIs(r.check_whole_paper(RING, (2, 3, 4), ("odd", value)), False)
            for at in range(4):
                self.assertIs(r.check_whole_paper(PATH, (2, 3, 4), good[:at] + (value,) + good[at + 1:]), False)

    def test_unserved(self):
        lone = Table(("a", "b"), ("x",), (("b", "x"),))
        self.assertEqual(raised(r.whole_paper, lone, (1,)), (Refused, "unserved"))
        self.assertEqual(raised(r.whole_paper, table_of("abcd", "xyz", RING.pairs), (1, 1, 1)), (Refused, "unserved"))
        order = (("a", "b"), ("x",))
        self.assertIs(r.check_whole_paper(lone, (1,), ("ringless", order, ("x",), ((0, 1), (1, 1)))), False)
        self.assertIs(r.check_whole_paper(table_of("abcd", "xyz", RING.pairs), (1, 1, 1), ("odd", (("a", "b", "c"), ("y", "z", "x")))), True)


if __name__ == "__main__":
    unittest.main()
