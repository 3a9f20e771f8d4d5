"""Thinning: openings from which no house can be closed, and openings by payments and by shares."""

from servedall.fractions import compared
from servedall.openings import not_served
from servedall.paying import paid_in_turn, wholly_paid
from servedall.tables import most_houses
from servedall.values import ascending


def thinned(table, houses):
    """The houses that stay if each, from the last one on, is closed unless somebody then has none."""
    stay = list(houses)
    for house in reversed(houses):
        others = [other for other in stay if other != house]
        if len(not_served(table, others)) == 0:
            stay = others
    return ascending(stay)


def raised_opening(table, prices):
    """The thinned ones of the houses that are wholly paid when all people have paid in turn."""
    return thinned(table, wholly_paid(table, prices, paid_in_turn(table, prices, table.people)))


def by_shares(table, shares):
    """The houses with a share of at least 1 over the most houses that a person has."""
    most = most_houses(table)
    if most == 0:
        return ()
    return tuple([house for house, share in zip(table.houses, shares) if compared(share, (1, most)) >= 0])
