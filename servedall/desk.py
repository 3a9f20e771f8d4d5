"""Desks: towns that are told and asked by lines, and keep a record."""

from servedall.branches import branch_paper
from servedall.commands import call_line, read_call
from servedall.fractions import ZERO
from servedall.openings import price_of
from servedall.prices import sum_of
from servedall.settling import least_shares
from servedall.tables import is_servable
from servedall.tabletext import table_text
from servedall.ties import any_ring
from servedall.town import Town

# What a town tells at once, and what it tells by an opening and payments, if everybody has a house.
PLAIN = ("calls", "depth", "prices", "table", "unserved", "kind")
PAPERS = ("least", "greatest", "gap", "opening", "payments")


def _plain_answer(town, word):
    if word == "calls":
        return tuple([call_line(call) for call in town.calls()])
    if word == "depth":
        return town.depth()
    if word == "prices":
        return town.prices_now()
    if word == "table":
        return table_text(town.table_now())
    return town.unserved_now() if word == "unserved" else town.kind_now()[0]


def _paper_answer(town, word):
    if word == "least":
        return price_of(town.table_now(), town.prices_now(), town.opening_now())
    if word == "greatest":
        return sum_of(town.payments_now())
    if word == "gap":
        return town.gap_now()
    return town.opening_now() if word == "opening" else town.payments_now()


def outcome_at(town, line):
    """What comes of a line at a town."""
    if line in PLAIN:
        return ("told", _plain_answer(town, line))
    if line not in PAPERS:
        return ("did", town.do(read_call(line)))
    if is_servable(town.table_now()):
        return ("told", _paper_answer(town, line))
    return ("refused", "unserved")


def _kind_sheets(town):
    table = town.table_now()
    word, paper = town.kind_now()
    if word == "ringless":
        return (("straight", table, paper),)
    if word == "odd":
        return (("odd", table, paper),)
    return (("ring", table, any_ring(table)), ("even", table, paper))


def _paper_sheets(town):
    case = (town.table_now(), town.prices_now())
    if town.gap_now() == ZERO:
        return (("meet", case, town.both_now()),)
    table, prices = case
    return (("least", case, branch_paper(table, prices)), ("shares", case, least_shares(table, prices)))


def _sheets_at(town, line):
    """Sheets that show what a town tells of a line."""
    if line == "kind":
        return _kind_sheets(town)
    if line in PAPERS and is_servable(town.table_now()):
        return _paper_sheets(town)
    return ()


def _rows_of(lines):
    """The rows of lines that were said at a new desk."""
    town = Town()
    rows = []
    for line in lines:
        outcome = outcome_at(town, line)
        rows.append((line, outcome, _sheets_at(town, line)))
    return tuple(rows)


class Desk:
    """A town that is told and asked by lines."""

    def __init__(self):
        self._town = Town()
        self._lines = []

    def say(self, line):
        """What comes of a line."""
        outcome = outcome_at(self._town, line)
        self._lines.append(line)
        return outcome

    def said(self):
        """The lines told without an error."""
        return tuple(self._lines)

    def record(self):
        """A row of the line, the outcome, and sheets that show it, for each line told."""
        return _rows_of(self._lines)


def run_lines(lines):
    """The outcomes of lines at a new desk."""
    desk = Desk()
    return tuple([desk.say(line) for line in lines])
