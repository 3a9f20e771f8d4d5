"""Groups: people who would pay less by themselves, and payments with which nobody would."""

from servedall.changing import least_cost
from servedall.errors import Refused
from servedall.fractions import compared, minus, whole
from servedall.middle import meets, need_case
from servedall.openings import least_for, least_price
from servedall.prices import price_at, right_payments, spares, sum_of
from servedall.settling import least_shares
from servedall.tables import served_by, serves
from servedall.values import among_fault


def check_objection(table, prices, payments, value):
    """Whether any value is some people who pay more than houses that serve them cost at least."""
    if not isinstance(value, tuple) or not value or among_fault(value, table.people) is not None:
        return False
    least = least_for(table, prices, value)
    if least is None:
        return False
    paid = sum_of([pays for person, pays in zip(table.people, payments) if person in value])
    return compared(paid, whole(least)) > 0


def objection(table, prices, payments):
    """Some people who pay more than houses that serve them cost at least; None if there are none."""
    for house, spare in zip(table.houses, spares(table, prices, payments)):
        if spare[0] < 0:
            return serves(table, house)
    return None


def is_content(table, prices, payments):
    """Whether all payments sum to the least price, without an objection."""
    need_case(table, prices)
    if sum_of(payments) != whole(least_price(table, prices)):
        return False
    return right_payments(table, prices, payments)


def can_share(table, prices):
    """Whether people can pay the least price without an objection."""
    return meets(table, prices)


def shared(table, prices):
    """Some payments that sum to the least price, without an objection."""
    if not meets(table, prices):
        raise Refused("leaving")
    return least_shares(table, prices)[1]


def lacking(table, prices):
    """The least price less the greatest sum of payments without an objection."""
    need_case(table, prices)
    return minus(whole(least_price(table, prices)), least_cost(table, prices))


def _without_person(table, prices, person):
    """The least price of houses that serve all but one person."""
    return least_for(table, prices, [other for other in table.people if other != person])


def spans(table, prices):
    """For each person how much less the least price is without them, and that of a house of theirs."""
    need_case(table, prices)
    least = least_price(table, prices)
    found = []
    for person in table.people:
        high = min([price_at(table, prices, house) for house in served_by(table, person)])
        found.append((least - _without_person(table, prices, person), high))
    return tuple(found)


def within_spans(table, prices, payments):
    """Whether each person pays within their span."""
    return all([compared(whole(low), pays) <= 0 and compared(pays, whole(high)) <= 0
                for pays, (low, high) in zip(payments, spans(table, prices))])
