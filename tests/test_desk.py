"""[85] Desks."""

import itertools
import random
import unittest

from plain import Account, random_call
from servedall import desk as d
from servedall.commands import call_line, read_call
from servedall.desk import Desk
from servedall.errors import InvalidCommand
from servedall.facts import facts_of, told_by
from servedall.openings import is_opening
from servedall.prices import right_payments
from servedall.settling import least_shares
from servedall.sheets import sheet_holds
from servedall.tabletext import table_text
from support import ANY, is_plain, least_by_hand, price_by_hand, raised, rings_by_hand, value_of

PLAIN = ("calls", "depth", "prices", "table", "unserved", "kind")
PAPERS = ("least", "greatest", "gap", "opening", "payments")
FIRST = "all house h 2; house i 3; person a h i; person b i"
EVEN = "all house w 1; house x 1; house y 1; house z 1; person a w x; person b x y; person c y z; person d w z"
ODD = "all house x 1; house y 1; house z 1; person a x y; person b y z; person c x z"


def random_lines(dice, many, **names):
    return [dice.choice(PLAIN + PAPERS) if dice.random() < 0.4 else call_line(random_call(dice, **names)) for _ in range(many)]


def kind_by_hand(table):
    sizes = [len(people) % 2 for people, _ in rings_by_hand(table)]
    return "ringless" if not sizes else "odd" if 1 in sizes else "even"


class SayTest(unittest.TestCase):

    def check_outcome(self, account, line, outcome):
        """What a desk tells, beside a plain account."""
        plain = account.now()
        table, prices = plain.table(), plain.costs()
        self.assertTrue(is_plain(outcome))
        least = least_by_hand(table, prices, table.people)
        if line in PAPERS and least is None:
            self.assertEqual(outcome, ("refused", "unserved"))
            return
        word, answer = outcome
        self.assertEqual(word, "told")
        if line in PLAIN:
            self.assertEqual(answer, {
                "calls": tuple(map(call_line, account.done)), "depth": (len(account.done), len(account.undone)),
                "prices": prices, "table": table_text(table), "kind": kind_by_hand(table),
                "unserved": tuple(sorted(name for name, own in plain.people.items() if not own))}[line])
            return
        greatest = sum(map(value_of, least_shares(table, prices)[1]))
        if line == "least":
            self.assertEqual((answer, type(answer)), (least, int))
        elif line == "opening":
            self.assertTrue(is_opening(table, answer) and price_by_hand(table, prices, answer) == least)
        elif line == "payments":
            self.assertTrue(right_payments(table, prices, answer) and sum(map(value_of, answer)) == greatest)
        else:
            self.assertEqual(value_of(answer), greatest if line == "greatest" else least - greatest)

    def test_example(self):
        desk = Desk()
        self.assertEqual((desk.say(FIRST), desk.say("least"), desk.say("serve b i off"), desk.say("gap")),
                         (("did", "done"), ("told", 3), ("did", "done"), ("refused", "unserved")))
        self.assertEqual(desk.said(), (FIRST, "least", "serve b i off", "gap"))

    def test_each_word(self):
        desk = Desk()
        for line, outcome in (("calls", ()), ("depth", (0, 0)), ("prices", ()), ("table", "houses"), ("unserved", ()),
                              ("kind", "ringless"), ("least", 0), ("greatest", (0, 1)), ("gap", (0, 1)), ("opening", ()), ("payments", ())):
            self.assertEqual(desk.say(line), ("told", outcome))
        desk.say("price h 2")
        desk.say(FIRST)
        desk.say("person c")
        desk.say("undo")
        for line, outcome in (("calls", (FIRST,)), ("depth", (1, 1)), ("prices", (2, 3)), ("table", "houses h i\na h i\nb i"),
                              ("unserved", ()), ("kind", "ringless"), ("least", 3), ("greatest", (3, 1)), ("gap", (0, 1)),
                              ("opening", ("i",)), ("redo", None), ("unserved", ("c",))):
            self.assertEqual(desk.say(line), ("told", outcome) if outcome is not None else ("did", "done"))
        for line in PAPERS:
            self.assertEqual(desk.say(line), ("refused", "unserved"))
        self.assertEqual(desk.say("kind"), ("told", "ringless"))

    def test_words_of_calls(self):
        desk = Desk()
        self.assertEqual([desk.say(line) for line in ("undo", "redo", "all", "close h", "house h 1", "house h 1", "price h 1", "person a q",
                                                      "person a h", "serve a h on", "serve a q on", "leave b", "all close h; close h")],
                         [("did", word) for word in ("nothing", "nothing", "nothing", "name", "done", "name", "nothing", "house",
                                                     "done", "nothing", "house", "name", "name")])

    def test_odd(self):
        desk = Desk()
        desk.say(line=ODD)
        self.assertEqual([desk.say(line) for line in ("kind", "least", "greatest", "gap", "payments")],
                         [("told", one) for one in ("odd", 2, (3, 2), (1, 2), ((1, 2),) * 3)])
        # At other prices both meet, though there is an odd ring.
        desk.say("price z 2")
        self.assertEqual([desk.say(line) for line in ("kind", "least", "greatest", "gap")],
                         [("told", one) for one in ("odd", 2, (2, 1), (0, 1))])

    def test_rows_of_lines(self):
        outcomes = set()
        for seed in range(40):
            dice = random.Random(seed)
            desk, account, said = Desk(), Account(), []
            for line in [dice.choice((FIRST, EVEN, ODD)), "kind"] + random_lines(dice, 38, houses="xyzw", people="abcd"):
                outcome = desk.say(line)
                if line in PLAIN + PAPERS:
                    self.check_outcome(account, line, outcome)
                else:
                    self.assertEqual(outcome, ("did", account.do(read_call(line))))
                said.append(line)
                self.assertEqual(desk.said(), tuple(said))
                outcomes.add(outcome[0] if line in PAPERS else outcome[1] if line == "kind" else "")
            self.assertEqual(d.run_lines(lines=said), d.run_lines(tuple(said)))
            self.assertEqual(d.run_lines(said)[-1], outcome)
        self.assertEqual(outcomes, {"", "told", "refused", "ringless", "even", "odd"})

    def test_no_lines(self):
        desk = Desk()
        desk.say(FIRST)
        before = (desk.said(), desk.record(), desk.say("table"))
        for value in ANY + ["", "Least", "least ", " least", "least 1", "opening i", "kinds", "call", "all; all", "house h 02", "tables",
                            ["least"], ("least",), "least\n", "told", None]:
            self.assertEqual(raised(desk.say, value), (InvalidCommand, None), value)
            self.assertEqual(raised(d.run_lines, [FIRST, value, "undo"]), (InvalidCommand, None))
            self.assertEqual(raised(d.run_lines, (value,)), (InvalidCommand, None))
        self.assertEqual((desk.said()[:1], desk.record()[:1], desk.say("table")), before)
        self.assertEqual(desk.said(), (FIRST, "table", "table"))

    def test_run(self):
        self.assertEqual(d.run_lines([]), ())
        self.assertEqual(d.run_lines((FIRST, "gap", "undo", "depth")), (("did", "done"), ("told", (0, 1)), ("did", "done"), ("told", (0, 1))))
        lines = [FIRST, "calls"]
        told = d.run_lines(lines)
        lines.append("undo")
        self.assertEqual(told, (("did", "done"), ("told", (FIRST,))))


class RecordTest(unittest.TestCase):

    def check_record(self, desk, outcomes):
        record = desk.record()
        self.assertTrue(is_plain(record))
        self.assertEqual(tuple(row[0] for row in record), desk.said())
        self.assertEqual([row[1] for row in record], outcomes)
        self.assertTrue(all(len(row) == 3 and isinstance(row[2], tuple) for row in record))
        self.assertTrue(all(sheet_holds(sheet) for _, _, sheets in record for sheet in sheets))
        return record

    def test_rows(self):
        for seed in range(15):
            dice = random.Random(seed)
            desk = Desk()
            lines = [dice.choice((FIRST, EVEN, ODD))] + random_lines(dice, 34, houses="xyzw", people="abcd") + list(PAPERS)
            outcomes = [desk.say(line) for line in lines]
            self.check_record(desk, outcomes)
            self.assertEqual(desk.record(), desk.record())

    def test_sheets_show_what_is_told(self):
        for first, kind in ((FIRST, "ringless"), (EVEN, "even"), (ODD, "odd")):
            desk = Desk()
            outcomes = [desk.say(line) for line in (first, "kind", *PAPERS)]
            record = self.check_record(desk, outcomes)
            self.assertEqual(outcomes[1], ("told", kind))
            account = Account()
            account.do(read_call(first))
            table, prices = account.now().table(), account.now().costs()
            facts = [list(itertools.chain(*map(facts_of, sheets))) for _, _, sheets in record]
            self.assertEqual(facts[0], [])
            self.assertIs(told_by(facts[1], "ring", table), kind != "ringless")
            self.assertIs(told_by(facts[1], "odd", table), kind == "odd")
            for at in range(2, 7):
                price, total = told_by(facts[at], "price", (table, prices)), told_by(facts[at], "sum", (table, prices))
                self.assertEqual((price, total), (outcomes[2][1], outcomes[3][1]))

    def test_what_was_told_stays(self):
        desk = Desk()
        desk.say(FIRST)
        told = (desk.said(), desk.record())
        desk.say("undo")
        self.assertEqual((told[0], len(told[1])), ((FIRST,), 1))
        self.assertEqual(Desk().record(), ())
        self.assertEqual(Desk().said(), ())


if __name__ == "__main__":
    unittest.main()
