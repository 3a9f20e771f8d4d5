"""Audits: whether the rows of a record are right."""

from servedall.desk import PAPERS, outcome_at
from servedall.errors import InvalidCommand
from servedall.facts import all_facts, facts_of, told_by
from servedall.fractions import minus, whole
from servedall.openings import is_opening, price_of
from servedall.prices import right_payments, sum_of
from servedall.sheets import sheet_holds
from servedall.tables import is_servable
from servedall.town import Town
from servedall.values import is_tuple_of


def _is_same(one, other):
    """Whether any value is equal to another one without lists, where no bool is equal to an integer."""
    if isinstance(one, tuple) and isinstance(other, tuple):
        return len(one) == len(other) and all([_is_same(thing, beside) for thing, beside in zip(one, other)])
    return isinstance(one, bool) == isinstance(other, bool) and one == other


def _is_kind(facts, table, answer):
    """Whether facts tell that a table is of the kind that any value names."""
    ring = told_by(facts, "ring", table)
    odd = told_by(facts, "odd", table)
    if answer == "ringless":
        return ring is False
    if answer == "even":
        return ring is True and odd is False
    return answer == "odd" and odd is True


def _is_told(facts, town, line, answer):
    """Whether facts tell any value as the answer of a town in which everybody has a house."""
    table = town.table_now()
    prices = town.prices_now()
    price = told_by(facts, "price", (table, prices))
    total = told_by(facts, "sum", (table, prices))
    if line == "least":
        return price is not None and _is_same(answer, price)
    if line == "greatest":
        return total is not None and _is_same(answer, total)
    if line == "opening":
        return is_opening(table, answer) and price_of(table, prices, answer) == price
    if line == "payments":
        return right_payments(table, prices, answer) and sum_of(answer) == total
    return price is not None and total is not None and _is_same(answer, minus(whole(price), total))


def _is_outcome(town, line, value):
    """Whether any value is the outcome of any line at a town."""
    try:
        outcome = outcome_at(town, line)
    except InvalidCommand:
        return False
    return _is_same(value, outcome)


def _is_right(town, row):
    """Whether any value is a right row at a town, which does what the row's line asks for."""
    if not is_tuple_of(row, 3) or not isinstance(row[2], tuple):
        return False
    line, outcome, sheets = row
    if not all([sheet_holds(sheet) for sheet in sheets]):
        return False
    asks_papers = line in PAPERS and is_servable(town.table_now())
    if line != "kind" and not asks_papers:
        return _is_outcome(town, line, outcome)
    if not is_tuple_of(outcome, 2) or outcome[0] != "told":
        return False
    facts = all_facts([fact for sheet in sheets for fact in facts_of(sheet)])
    if line == "kind":
        return _is_kind(facts, town.table_now(), outcome[1])
    return _is_told(facts, town, line, outcome[1])


def audit(record):
    """-1 for no tuple, the number of the first thing that is no right row, or None."""
    if not isinstance(record, tuple):
        return -1
    town = Town()
    for at, row in enumerate(record):
        if not _is_right(town, row):
            return at
    return None
