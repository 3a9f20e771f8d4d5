"""Trips: what it costs each person to come to each house."""

from servedall.errors import InvalidSize
from servedall.values import is_number, is_tuple_of, number_fault, sublots


def is_trips(value):
    """Whether any value is trips."""
    if not isinstance(value, tuple) or not value or not isinstance(value[0], tuple) or not value[0]:
        return False
    return all([is_tuple_of(row, len(value[0])) and number_fault(row) is None for row in value])


def need_trips(value):
    """Raise an error for what are no trips."""
    if not is_trips(value):
        raise InvalidSize("trips")


def _nearest(row, opening):
    cheapest = min([row[house] for house in opening])
    return [house for house in opening if row[house] == cheapest][0]


def nearest_open(trips, opening):
    """For each person the least number of an open house whose trip is the cheapest."""
    return tuple([_nearest(row, opening) for row in trips])


def all_in(trips, prices, opening):
    """The sum of the prices of the open houses, and of the cheapest trips to them."""
    paid = sum([prices[house] for house in opening])
    return paid + sum([row[house] for row, house in zip(trips, nearest_open(trips, opening))])


def least_all_in(trips, prices):
    """The least all-in price of an opening."""
    openings = sublots(list(range(len(prices))))
    return min([all_in(trips, prices, opening) for opening in openings if opening])


def taken_by(trips, payments, house):
    """What people pay above their trips to a house."""
    return sum([max(0, pays - row[house]) for row, pays in zip(trips, payments)])


def right_way_payments(trips, prices, value):
    """Whether any value is way payments of which no house takes more than its price."""
    if not is_tuple_of(value, len(trips)) or number_fault(value) is not None:
        return False
    return all([taken_by(trips, value, house) <= price for house, price in enumerate(prices)])


def _is_opening(prices, value):
    if not isinstance(value, tuple) or not value:
        return False
    for at, house in enumerate(value):
        if not is_number(house) or house >= len(prices) or at > 0 and house <= value[at - 1]:
            return False
    return True


def check_ways(trips, prices, value):
    """Whether any value is a pair of an opening and right way payments that sum to its all-in price."""
    if not is_tuple_of(value, 2) or not _is_opening(prices, value[0]):
        return False
    if not right_way_payments(trips, prices, value[1]):
        return False
    return all_in(trips, prices, value[0]) == sum(value[1])
