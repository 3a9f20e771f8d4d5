"""Houses that are in some opening of the least price, or in each, and at which price they are."""

from servedall.deeds import house_gone
from servedall.errors import Refused
from servedall.openings import least_for, least_price, not_served
from servedall.prices import price_at


def _beside(table, prices, house):
    """The least price of what an opening has besides a house; None if there is no opening."""
    return least_for(table, prices, not_served(table, (house,)))


def with_house(table, prices, house):
    """The least price of an opening that has a house; None if there is none."""
    rest = _beside(table, prices, house)
    return None if rest is None else rest + price_at(table, prices, house)


def without_house(table, prices, house):
    """The least price of an opening that does not have a house; None if there is none."""
    rest, rest_prices = house_gone(table, prices, house)
    return least_price(rest, rest_prices)


def useful_houses(table, prices):
    """The houses that are in some opening of the least price."""
    least = least_price(table, prices)
    if least is None:
        return ()
    return tuple([house for house in table.houses if with_house(table, prices, house) == least])


def needed_houses(table, prices):
    """The houses that are in each opening of the least price."""
    # Without an opening there is none without a house either: so no house is told then.
    least = least_price(table, prices)
    return tuple([house for house in table.houses if without_house(table, prices, house) != least])


def dearest(table, prices, house):
    """The greatest price of a house at which it is useful; None if it is so at any price."""
    rest = _beside(table, prices, house)
    if rest is None:
        raise Refused("unserved")
    other = without_house(table, prices, house)
    return None if other is None else other - rest
