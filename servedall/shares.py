"""Shares: how much of each house is opened."""

from servedall.errors import InvalidOpening
from servedall.fractions import ONE, ZERO, compared, is_from_zero, minus, times, total_of, whole
from servedall.prices import asked_of, sum_of
from servedall.tables import served_by


def _fault(table, value):
    if not isinstance(value, tuple):
        return -1
    for at, share in enumerate(value):
        if at >= len(table.houses) or not is_from_zero(share):
            return at
    return len(value) if len(value) < len(table.houses) else None


def need_shares(table, value):
    """Raise an error for what are no shares."""
    at = _fault(table, value)
    if at is not None:
        raise InvalidOpening(at)


def supplies(table, shares):
    """For each person the sum of the shares of their houses."""
    found = []
    for person in table.people:
        houses = served_by(table, person)
        found.append(total_of([share for house, share in zip(table.houses, shares) if house in houses]))
    return tuple(found)


def is_shares(table, value):
    """Whether any value is right shares."""
    if _fault(table, value) is not None:
        return False
    return all([compared(supply, ONE) >= 0 for supply in supplies(table, value)])


def cost_of(prices, shares):
    """The sum of prices times shares."""
    return total_of([times(whole(price), share) for price, share in zip(prices, shares)])


def shares_of(table, opening):
    """1 for some houses, 0 for all others."""
    return tuple([ONE if house in opening else ZERO for house in table.houses])


def paid_to(table, payments):
    """For each house the sum of the payments of its people."""
    return tuple([asked_of(table, payments, house) for house in table.houses])


def share_gaps(table, prices, shares, payments):
    """What shares cost more than is paid, by houses, and what is paid for supplies above 1, by people."""
    houses = [times(share, minus(whole(price), paid))
              for price, share, paid in zip(prices, shares, paid_to(table, payments))]
    people = [times(pays, minus(supply, ONE)) for pays, supply in zip(payments, supplies(table, shares))]
    return (tuple(houses), tuple(people))


def do_meet(table, prices, shares, payments):
    """Whether the shares cost just the sum of the payments."""
    return cost_of(prices, shares) == sum_of(payments)
