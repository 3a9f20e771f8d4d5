"""Coming: what a further person or house would change, and prices that change nothing."""

from servedall.fractions import ceiling_of
from servedall.middle import need_case
from servedall.needed import dearest, needed_houses, with_house
from servedall.openings import least_for, least_price
from servedall.shares import paid_to


def rise_for(table, prices, houses):
    """How much the least price rises if a person comes whom just these houses serve."""
    need_case(table, prices)
    return min([with_house(table, prices, house) for house in houses]) - least_price(table, prices)


def worth(table, prices, people):
    """The greatest price at which a further house that serves just these people is in some least opening."""
    need_case(table, prices)
    others = [person for person in table.people if person not in people]
    return least_price(table, prices) - least_for(table, prices, others)


def steady_opening(table, prices, opening):
    """For each house from which price up to which one an opening of the least price stays so."""
    found = []
    for house in table.houses:
        most = dearest(table, prices, house)
        found.append((0, most) if house in opening else (most, None))
    return tuple(found)


def steady_payments(table, prices, payments):
    """For each house from which price up to which one payments of the least price stay right, and of it."""
    needed = needed_houses(table, prices)
    return tuple([(price, price) if house in needed else (ceiling_of(paid), None)
                  for house, price, paid in zip(table.houses, prices, paid_to(table, payments))])
