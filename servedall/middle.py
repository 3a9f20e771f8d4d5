"""Meets: an opening and right payments of the same sum."""

from servedall.changing import least_cost
from servedall.fractions import floor_of, whole
from servedall.openings import check_meet, first_opening, least_price
from servedall.prices import need_prices
from servedall.settling import least_shares
from servedall.tables import need_served, served_by, without
from servedall.ties import need_even
from servedall.values import kept


class Meets:
    """An opening and payments, unchecked."""

    def __init__(self, opening, payments):
        self.opening = kept(opening)
        self.payments = kept(payments)

    def __eq__(self, other):
        return isinstance(other, Meets) and self.opening == other.opening and self.payments == other.payments


def need_case(table, prices):
    """Raise an error for what are no prices; refuse a table in which some person has no house."""
    need_prices(table, prices)
    need_served(table)


def _need_even_case(table, prices):
    need_case(table, prices)
    need_even(table)


def _lowered(table, prices, person, pays):
    """The prices less what a person pays, of those houses that serve them."""
    houses = served_by(table, person)
    return tuple([price - pays if house in houses else price for house, price in zip(table.houses, prices)])


def _greatest_payments(table, prices):
    """Right whole payments of the greatest sum, for an even table in which each person has a house."""
    payments = []
    rest = table
    rest_prices = prices
    for person in table.people:
        # Rounding down what the first one pays loses nothing: what the others can pay rises by as much.
        pays = floor_of(least_shares(rest, rest_prices)[1][0])
        payments.append(whole(pays))
        rest_prices = _lowered(rest, rest_prices, person, pays)
        rest = without(rest, (person,), ())
    return tuple(payments)


def whole_payments(table, prices):
    """Some right whole payments of the greatest sum."""
    _need_even_case(table, prices)
    return _greatest_payments(table, prices)


def best(table, prices):
    """Some opening and right whole payments of the same sum."""
    _need_even_case(table, prices)
    return Meets(first_opening(table, prices), _greatest_payments(table, prices))


def check_meets(table, prices, value):
    """Whether any value is an opening and right payments of the same sum."""
    need_prices(table, prices)
    return isinstance(value, Meets) and check_meet(table, prices, value.opening, value.payments)


def meets(table, prices):
    """Whether some opening and some right payments have the same sum."""
    need_case(table, prices)
    return whole(least_price(table, prices)) == least_cost(table, prices)
