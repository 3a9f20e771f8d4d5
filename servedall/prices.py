"""Prices of houses, and what people pay."""

from servedall.errors import InvalidPayments, InvalidPrices
from servedall.fractions import is_from_zero, minus, total_of, whole
from servedall.tables import serves
from servedall.values import is_tuple_of, number_fault


def _prices_fault(table, value):
    if not is_tuple_of(value, len(table.houses)):
        return -1
    return number_fault(value)


def need_prices(table, value):
    """Raise an error for what are no prices of a table."""
    at = _prices_fault(table, value)
    if at is not None:
        raise InvalidPrices(at)


def is_prices(table, value):
    """Whether any value is prices of a table."""
    return _prices_fault(table, value) is None


def price_at(table, prices, house):
    """The price of one of the houses."""
    return prices[table.houses.index(house)]


def repriced(table, prices, house, price):
    """The prices with another one at this house."""
    at = table.houses.index(house)
    return (*prices[:at], price, *prices[at + 1:])


def sum_of(payments):
    """What all people pay together."""
    return total_of(payments)


def asked_of(table, payments, house):
    """What those pay together whom a house serves."""
    people = serves(table, house)
    return total_of([pays for person, pays in zip(table.people, payments) if person in people])


def spares(table, prices, payments):
    """For each house its price less what its people pay together."""
    return tuple([minus(whole(price), asked_of(table, payments, house))
                  for house, price in zip(table.houses, prices)])


def _pays_fault(table, value):
    if not is_tuple_of(value, len(table.people)):
        return -1
    for at, pays in enumerate(value):
        if not is_from_zero(pays):
            return at
    return None


def are_pays(table, value):
    """Whether any value is what people pay: fractions from 0 on, one for each."""
    return _pays_fault(table, value) is None


def _payments_fault(table, prices, value):
    at = _pays_fault(table, value)
    if at is not None:
        return at
    for at, spare in enumerate(spares(table, prices, value)):
        if spare[0] < 0:
            return len(table.people) + at
    return None


def need_payments(table, prices, value):
    """Raise an error for what are no right payments."""
    at = _payments_fault(table, prices, value)
    if at is not None:
        raise InvalidPayments(at)


def right_payments(table, prices, value):
    """Whether any value is right payments."""
    return _payments_fault(table, prices, value) is None
