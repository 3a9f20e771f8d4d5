"""Meets: an opening and right payments of the same sum."""

from servedall.changing import least_cost
from servedall.fractions import whole
from servedall.openings import cheap_opening, check_meet, least_price
from servedall.prices import need_prices
from servedall.tables import need_served, served_by, without
from servedall.ties import need_even
from servedall.values import kept


class Meets:
    """An opening and payments, unchecked."""

    def __init__(self, opening, payments):
        self.opening = kept(opening)
        self.payments = kept(payments)

    def __eq__(self, other):
        return isinstance(other, Meets) and self.opening == other.opening and self.payments == other.payments


def need_case(table, prices):
    """Raise an error for what are no prices; refuse a table in which some person has no house."""
    need_prices(table, prices)
    need_served(table)


def need_even_case(table, prices):
    """The same; then refuse a table that has an odd ring."""
    need_case(table, prices)
    need_even(table)


def _lowered(table, prices, person, pays):
    """The prices less what a person pays, of those houses that serve them."""
    houses = served_by(table, person)
    return tuple([price - pays if house in houses else price for house, price in zip(table.houses, prices)])


def _greatest_payments(table, prices):
    """Right whole payments of the greatest sum, for an even table in which each person has a house."""
    payments = []
    rest = table
    rest_prices = prices
    still = least_price(rest, rest_prices)
    for person in table.people:
        # As somebody pays more and more, the sum of all rises by just as much, as long as least openings
        # for the others have none of their houses: so paying what the others do not need loses nothing.
        others = without(rest, (person,), ())
        pays = still - least_price(others, rest_prices)
        payments.append(whole(pays))
        rest_prices = _lowered(rest, rest_prices, person, pays)
        rest = others
        still = still - pays
    return tuple(payments)


def least_meet(table, prices):
    """Some opening and right whole payments of its sum, for an even table in which each person has a house."""
    return (cheap_opening(table, prices), _greatest_payments(table, prices))


def whole_payments(table, prices):
    """Some right whole payments of the greatest sum."""
    need_even_case(table, prices)
    return _greatest_payments(table, prices)


def best(table, prices):
    """Some opening and right whole payments of the same sum."""
    need_even_case(table, prices)
    opening, payments = least_meet(table, prices)
    return Meets(opening, payments)


def check_meets(table, prices, value):
    """Whether any value is an opening and right payments of the same sum."""
    need_prices(table, prices)
    return isinstance(value, Meets) and check_meet(table, prices, value.opening, value.payments)


def meets(table, prices):
    """Whether some opening and some right payments have the same sum."""
    need_case(table, prices)
    return whole(least_price(table, prices)) == least_cost(table, prices)
