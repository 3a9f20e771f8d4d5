"""Fines: plans that leave some people unserved, and payments that are never above fines."""

from servedall.copies import with_own_houses
from servedall.errors import InvalidPrices
from servedall.fractions import ZERO, compared, whole
from servedall.middle import least_meet
from servedall.openings import least_price, not_served, price_of
from servedall.prices import is_prices, need_prices, right_payments, sum_of
from servedall.rings import is_odd_ring
from servedall.ties import need_even, odd_ring
from servedall.values import among_fault, is_tuple_of, kept, number_fault


class Plan:
    """Houses, the people whom they do not serve, and payments, unchecked."""

    def __init__(self, opening, unserved, payments):
        self.opening = kept(opening)
        self.unserved = kept(unserved)
        self.payments = kept(payments)

    def __eq__(self, other):
        return (isinstance(other, Plan) and self.opening == other.opening
                and self.unserved == other.unserved and self.payments == other.payments)


def _fines_fault(table, value):
    if not is_tuple_of(value, len(table.people)):
        return -1
    return number_fault(value)


def is_fines(table, value):
    """Whether any value is fines of a table."""
    return _fines_fault(table, value) is None


def _need_case(table, prices, fines):
    need_prices(table, prices)
    at = _fines_fault(table, fines)
    if at is not None:
        raise InvalidPrices(at)


def _price_of_plan(table, prices, fines, houses):
    left_out = not_served(table, houses)
    fined = sum([fine for person, fine in zip(table.people, fines) if person in left_out])
    return price_of(table, prices, houses) + fined


def plan_price(table, prices, fines, houses):
    """The prices of some houses and the fines of all whom none of them serves."""
    _need_case(table, prices, fines)
    return _price_of_plan(table, prices, fines, houses)


def _are_fair(table, prices, fines, payments):
    """Whether any value is right payments, each at most the person's fine."""
    if not right_payments(table, prices, payments):
        return False
    return all([compared(pays, whole(fine)) <= 0 for pays, fine in zip(payments, fines)])


def check_plan(table, prices, fines, value):
    """Whether any value is a plan and right payments, nowhere above fines, of its price."""
    _need_case(table, prices, fines)
    if not isinstance(value, Plan) or not isinstance(value.opening, tuple):
        return False
    if among_fault(value.opening, table.houses) is not None or value.unserved != not_served(table, value.opening):
        return False
    if not _are_fair(table, prices, fines, value.payments):
        return False
    return sum_of(value.payments) == whole(_price_of_plan(table, prices, fines, value.opening))


def best_plan(table, prices, fines):
    """Some plan and whole payments of its price."""
    _need_case(table, prices, fines)
    need_even(table)
    # A fine is the price of a house that serves one person alone; such houses are in no ring.
    wide = with_own_houses(table)
    opening, payments = least_meet(wide, (*prices, *fines))
    houses = tuple([house for house, name in zip(table.houses, wide.houses) if name in opening])
    return Plan(houses, not_served(table, houses), payments)


def least_plan_price(table, prices, fines):
    """The least price of a plan."""
    _need_case(table, prices, fines)
    return least_price(with_own_houses(table), (*prices, *fines))


def _parting_of(table, ring):
    people, houses = ring
    prices = tuple([1 if house in houses else len(houses) for house in table.houses])
    return (prices, tuple([1 if person in people else 0 for person in table.people]))


def parting_fines(table):
    """None for an even table, else prices and fines at which plans and payments part."""
    ring = odd_ring(table)
    return None if ring is None else _parting_of(table, ring)


def check_parting(table, ring, prices, fines):
    """Whether any values are an odd ring and its prices and fines."""
    if not is_odd_ring(table, ring) or not is_prices(table, prices) or not is_fines(table, fines):
        return False
    return (prices, fines) == _parting_of(table, ring)


def ring_payments(table, ring):
    """Payments of 1 / 2 by the people of a ring, and of 0 by others."""
    return tuple([(1, 2) if person in ring[0] else ZERO for person in table.people])
