"""Runs of calls in a new town, and whole papers of tables with prices."""

from servedall.evenness import check_even
from servedall.openings import check_meet, price_of
from servedall.passes import is_straight_paper
from servedall.prices import sum_of
from servedall.rings import is_odd_ring
from servedall.tables import is_servable, need_served
from servedall.town import Town, both_of, kind_of
from servedall.values import is_tuple_of


def _ends_of(town):
    """The least price and the greatest sum; None if somebody has no house."""
    if not is_servable(town.table_now()):
        return None
    opening, payments = town.both_now()
    return (price_of(town.table_now(), town.prices_now(), opening), sum_of(payments))


def run(calls):
    """For each call in a new town it, its word, the kind behind it, the least price and the greatest sum."""
    town = Town()
    rows = []
    for call in calls:
        word = town.do(call)
        rows.append((call, word, town.kind_now()[0], _ends_of(town)))
    return tuple(rows)


def whole_paper(table, prices):
    """The kind and its paper, and, unless it is odd, an opening and right payments of one sum."""
    need_served(table)
    kind = kind_of(table)
    if kind[0] == "odd":
        return kind
    return (*kind, *both_of(table, prices, kind[0]))


def check_whole_paper(table, prices, value):
    """Whether any value is a kind, a right paper of it, and, unless it is odd, what meets."""
    if is_tuple_of(value, 2):
        return value[0] == "odd" and is_odd_ring(table, value[1])
    if not is_tuple_of(value, 4) or not check_meet(table, prices, value[2], value[3]):
        return False
    if value[0] == "ringless":
        return is_straight_paper(table, value[1])
    return value[0] == "even" and check_even(table, value[1])
