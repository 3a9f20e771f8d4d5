"""[86] Audits of records."""

import itertools
import random
import unittest

from plain import Account
from servedall.audit import audit
from servedall.commands import call_line, read_call
from servedall.desk import Desk
from servedall.errors import InvalidCommand
from servedall.openings import least_openings
from servedall.prices import right_payments
from servedall.settling import least_shares
from servedall.tabletext import table_text
from support import ANY, least_by_hand, openings_by_hand, price_by_hand, raised, rings_by_hand, value_of
from test_desk import EVEN, FIRST, ODD, PAPERS, PLAIN, random_lines

WORDS = PLAIN + PAPERS


def record_of(*lines):
    desk = Desk()
    for line in lines:
        desk.say(line)
    return desk.record()


def same(one, other):
    """Whether two values are equal, and no bool is taken for an integer."""
    if isinstance(one, (tuple, list)) and type(one) is type(other):
        return len(one) == len(other) and all(map(same, one, other))
    return type(one) is type(other) and one == other


def is_true(account, line, outcome):
    """Whether an outcome is that of a line in a town, by trying all; the account does what the line asks for."""
    if line not in WORDS:
        error, call = raised(read_call, line)
        return error is None and same(outcome, ("did", account.do(call)))
    plain = account.now()
    table, prices = plain.table(), plain.costs()
    least = least_by_hand(table, prices, table.people)
    if line in PAPERS and least is None:
        return same(outcome, ("refused", "unserved"))
    if not isinstance(outcome, tuple) or len(outcome) != 2 or not same(outcome[0], "told"):
        return False
    answer = outcome[1]
    if line == "opening":
        return isinstance(answer, tuple) and answer in openings_by_hand(table) and price_by_hand(table, prices, answer) == least
    greatest = () if least is None else least_shares(table, prices)[1]
    total = sum(map(value_of, greatest))
    if line == "payments":
        return right_payments(table, prices, answer) and sum(map(value_of, answer)) == total
    sizes = [len(people) % 2 for people, _ in rings_by_hand(table)]
    gap = (least or 0) - total
    return same(answer, {"calls": tuple(map(call_line, account.done)), "depth": (len(account.done), len(account.undone)), "prices": prices,
                         "table": table_text(table), "kind": "ringless" if not sizes else "odd" if 1 in sizes else "even",
                         "unserved": tuple(sorted(name for name, own in plain.people.items() if not own)), "least": least,
                         "greatest": (total.numerator, total.denominator) if least is not None else None,
                         "gap": (gap.numerator, gap.denominator)}[line])


class AuditTest(unittest.TestCase):

    def test_example(self):
        desk = Desk()
        for line in (FIRST, "least", "serve b i off", "gap"):
            desk.say(line)
        self.assertEqual((audit(desk.record()), audit((("least", ("told", 0), ()),))), (None, 0))
        self.assertIsNone(audit(record=()))

    def test_records_of_desks(self):
        for seed in range(40):
            dice = random.Random(seed)
            desk = Desk()
            for line in [dice.choice((FIRST, EVEN, ODD)), "kind"] + random_lines(dice, 38, houses="xyzw", people="abcd"):
                desk.say(line)
            record = desk.record()
            self.assertIsNone(audit(record=record))
            self.assertIsNone(audit(record))
            self.assertIsNone(audit(record[:20]))
        for first in (FIRST, EVEN, ODD):
            self.assertIsNone(audit(record_of(first, *WORDS, "price z 2", *WORDS, "undo", "person q", *WORDS, "redo", "leave q")))

    def check_false(self, record):
        """Up to its first wrong row a record tells nothing false."""
        wrong = audit(record)
        account = Account()
        for at, row in enumerate(record[:wrong]):
            self.assertTrue(is_true(account, row[0], row[1]), (at, row))
        return wrong

    def test_changed_records(self):
        wrongs = {}
        for seed in range(50):
            dice = random.Random(seed)
            desk = Desk()
            for line in [dice.choice((FIRST, EVEN, ODD))] + [dice.choice(WORDS) for _ in range(3)] + random_lines(dice, 12, houses="xyzw", people="abcd"):
                desk.say(line)
            record = list(desk.record())
            others = [row for first in (FIRST, EVEN, ODD) for row in record_of(first, *WORDS)]
            for _ in range(20):
                rows = list(record)
                at, to = dice.randrange(len(rows)), dice.randrange(len(rows))
                line, outcome, sheets = rows[at]
                change = dice.choice(("line", "outcome", "sheets", "no sheets", "exchange", "out", "twice", "number", "other"))
                if change == "exchange":
                    rows[at], rows[to] = rows[to], rows[at]
                elif change == "out":
                    del rows[at]
                elif change == "twice":
                    rows.insert(at, rows[to])
                else:
                    other = dice.choice(rows + others)
                    rows[at] = {"line": (other[0], outcome, sheets), "outcome": (line, other[1], sheets), "sheets": (line, outcome, other[2]),
                                "no sheets": (line, outcome, ()), "number": (line, (outcome[0], dice.choice((0, 1, 2, (1, 1), (0, 1), (2, 1), ("x",), ()))), sheets),
                                "other": other}[change]
                wrong = self.check_false(tuple(rows))
                if wrong is not None:
                    self.assertGreaterEqual(wrong, 0)
                    wrongs[change] = wrongs.get(change, 0) + 1
        self.assertEqual(len(wrongs), 9)
        self.assertGreater(min(wrongs.values()), 15)

    def test_each_wrong_answer(self):
        for first in (FIRST, EVEN, ODD):
            for at, line in enumerate(WORDS):
                good = record_of(first, line)
                answers = [row[1] for other in (FIRST, EVEN, ODD) for row in record_of(other, *WORDS)]
                answers += [("told", one) for one in (None, True, False, 0, 1, 2, 3, (0, 0), (1, 0), (0, 1), (1, 1), (True, 0), (1, False), "", "even", ())]
                answers += [("refused", "unserved"), ("did", "done"), ("told",), ["told", good[1][1][1]], ("Told", good[1][1][1]), good[1][1] + (None,), None]
                for outcome in answers:
                    value = (good[0], (line, outcome, good[1][2]))
                    account = Account()
                    is_true(account, *good[0][:2])
                    self.assertEqual(audit(value), None if is_true(account, line, outcome) else 1, (line, outcome))
                self.assertLess(at, 11)

    def test_sheets_are_needed(self):
        for first in (FIRST, EVEN, ODD):
            record = record_of(first, *WORDS)
            by_line = {row[0]: row[2] for row in record}
            for at, (line, outcome, sheets) in enumerate(record):
                needs = line in PAPERS or line == "kind"
                self.assertIs(bool(sheets), needs)
                rows = record[:at] + ((line, outcome, ()),) + record[at + 1:]
                self.assertEqual(audit(rows), at if needs else None)
                # Sheets that hold, but tell something else, do not help; more of them do no harm.
                self.assertEqual(audit(record[:at] + ((line, outcome, by_line["kind"]),) + record[at + 1:]), at if line in PAPERS else None)
                self.assertEqual(audit(record[:at] + ((line, outcome, by_line["gap"]),) + record[at + 1:]), at if line == "kind" and first != ODD else None)
                self.assertIsNone(audit(record[:at] + ((line, outcome, by_line["kind"] + sheets + by_line["kind"]),) + record[at + 1:]))
                self.assertEqual(audit(record[:at] + ((line, outcome, sheets + (("ring", None, None),)),) + record[at + 1:]), at)
                self.assertEqual(audit(record[:at] + ((line, outcome, list(sheets)),) + record[at + 1:]), at)
                self.assertEqual(audit(record[:at] + ((line, outcome, sheets + (None,)),) + record[at + 1:]), at)

    def test_nothing_is_told_by_no_sheets(self):
        for line in PAPERS + ("kind",):
            for answer in (None, True, False, 0, (0, 1), (), "ringless"):
                self.assertEqual(audit(((line, ("told", answer), ()),)), 0)

    def test_half_of_what_is_needed(self):
        # For the gap both the price and the sum are needed; for "even" a ring, and that there is no odd one.
        record = record_of(ODD, "gap", "least", "greatest", "opening", "payments")
        least, shares = record[1][2]
        self.assertEqual((least[0], shares[0]), ("least", "shares"))
        for at, alone in ((1, None), (2, least), (3, shares), (4, least), (5, shares)):
            line, outcome, _ = record[at]
            for sheet in (least, shares):
                rows = (record[0], (line, outcome, (sheet,)))
                self.assertEqual(audit(rows), None if sheet == alone else 1, (line, sheet))
        first, (line, outcome, sheets) = record_of(EVEN, "kind")
        self.assertEqual([sheet[0] for sheet in sheets], ["ring", "even"])
        for sheet in sheets:
            self.assertEqual(audit((first, (line, outcome, (sheet,)))), 1)
        self.assertIsNone(audit((first, (line, outcome, sheets[::-1]))))

    def test_what_follows_helps(self):
        # A price, and that there is no odd ring, tell the sum; a price and another sum tell an odd ring.
        (first, least), (_, kind) = record_of(EVEN, "least"), record_of(EVEN, "kind")
        table, prices = least[2][0][1]
        opening, payments = least[2][0][2]
        tree = ("least", (table, prices), (opening, ("enough", payments)))
        self.assertEqual(audit((first, ("greatest", ("told", (2, 1)), (tree,)))), 1)
        self.assertIsNone(audit((first, ("greatest", ("told", (2, 1)), (tree,) + kind[2]))))
        odd = record_of(ODD, "gap")
        self.assertIsNone(audit((odd[0], ("kind", ("told", "odd"), odd[1][2]))))
        self.assertEqual(audit((odd[0], ("kind", ("told", "odd"), odd[1][2][:1]))), 1)

    def test_any_opening_and_payments(self):
        first, gap = record_of("all house x 1; house y 1; house z 2; person a x y z; person b x y z", "gap")
        table, prices = gap[2][0][1]
        for opening in [*openings_by_hand(table), ["x"], ("y", "x"), "x", None]:
            right = opening in least_openings(table, prices)
            self.assertEqual(audit((first, ("opening", ("told", opening), gap[2]))), None if right else 1)
        for tops in itertools.product(range(-1, 4), repeat=2):
            for bottom in (1, 2):
                payments = tuple((top, bottom if top % 2 else 1) for top in tops)
                right = right_payments(table, prices, payments) and sum(map(value_of, payments)) == 1
                self.assertEqual(audit((first, ("payments", ("told", payments), gap[2]))), None if right else 1)
        self.assertEqual(audit((first, ("payments", ("told", [(1, 1), (0, 1)]), gap[2]))), 1)
        self.assertEqual(audit((first, ("payments", ("told", ((True, 1), (0, 1))), gap[2]))), 1)

    def test_sheets_of_another_table_or_other_prices(self):
        record = record_of(FIRST, "least", "price i 2", "least", "kind", "house j 0", "kind")
        self.assertIsNone(audit(record))
        for at, to in ((1, 3), (3, 1), (4, 6), (6, 4)):
            rows = list(record)
            rows[at] = rows[at][:2] + (record[to][2],)
            self.assertEqual(audit(tuple(rows)), at)

    def test_refused(self):
        record = record_of("person a", *PAPERS)
        self.assertEqual([row[1] for row in record[1:]], [("refused", "unserved")] * 5)
        self.assertIsNone(audit(record))
        for at in range(1, 6):
            for outcome in (("told", 0), ("told", (0, 1)), ("told", ()), ("told", None), ("refused", "name"), ("refused",), "unserved", ("told", "unserved")):
                self.assertEqual(audit(record[:at] + ((record[at][0], outcome, ()),)), at)
        self.assertEqual(audit(((("least", ("refused", "unserved"), ())),)), 0)

    def test_calls(self):
        for line, outcome, wrong in (("house h 2", ("did", "done"), None), ("house h 02", ("did", "done"), 0), ("house h 2", ("did", "name"), 0),
                                     ("undo", ("did", "nothing"), None), ("undo", ("did", "done"), 0), ("close h", ("did", "name"), None),
                                     ("hello", ("did", "call"), 0), (None, ("did", "call"), 0), (("house", "h", 2), ("did", "done"), 0),
                                     ("house h 2", ["did", "done"], 0), ("house h 2", ("did", "done", ()), 0), ("house h 2", "done", 0), (["undo"], ("did", "nothing"), 0)):
            self.assertEqual(audit(((line, outcome, ()),)), wrong, line)
        # What a row's line asks for is done, and what stands behind a wrong row is not looked at.
        rows = (("house h 2", ("did", "done"), ()), ("house h 2", ("did", "name"), ()), ("depth", ("told", (1, 0)), ()), ("undo", ("did", "done"), ()),
                ("depth", ("told", (0, 1)), ()), ("prices", ("told", ()), ()))
        self.assertIsNone(audit(rows))
        self.assertEqual(audit(rows[1:]), 0)
        self.assertEqual(audit(rows[:3] + rows[4:]), 3)
        self.assertEqual(audit(rows + (None, rows[0])), 6)
        for told in ((True, 0), (1, False), [1, 0], (1,), (1, 0, 0), 1, None):
            self.assertEqual(audit(rows[:2] + (("depth", ("told", told), ()),)), 2)

    def test_any_value(self):
        good = record_of(FIRST, *WORDS)
        for value in ANY:
            self.assertEqual(audit(value), -1 if not isinstance(value, tuple) else None if value == () else 0)
            self.assertEqual(audit((value,)), 0)
            for at in range(len(good)):
                line, outcome, sheets = good[at]
                for row in (value, (value, outcome, sheets), (line, value, sheets), (line, (value, outcome[1]), sheets), (line, (outcome[0], value), sheets),
                            (line, outcome, sheets + (value,)), (line, outcome)):
                    rows = good[:at] + (row,) + good[at + 1:]
                    self.assertEqual(audit(rows), None if same(row, good[at]) else at, row)
                row = (line, outcome, value)
                self.assertEqual(audit(good[:at] + (row,) + good[at + 1:]), None if same(row, good[at]) else at)
        self.assertEqual(audit(list(good)), -1)
        self.assertEqual(audit(good[:1] + (list(good[1]),)), 1)
        self.assertTrue(issubclass(InvalidCommand, Exception))


if __name__ == "__main__":
    unittest.main()
