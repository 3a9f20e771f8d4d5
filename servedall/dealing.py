"""Deals: openings whose mean is nowhere above right shares."""

from math import lcm

from servedall.copies import coats_of, copied
from servedall.errors import Refused
from servedall.fractions import fraction
from servedall.openings import is_opening, price_of
from servedall.shares import is_shares, need_shares
from servedall.ties import need_even
from servedall.values import ascending, is_tuple_of


def _need_right_shares(table, shares):
    need_shares(table, shares)
    if not is_shares(table, shares):
        raise Refused("shares")


def _number_of(shares):
    """The least number above 0 that the bottoms of all shares divide."""
    number = 1
    for _, bottom in shares:
        number = lcm(number, bottom)
    return number


def _most_times(number, share):
    """In how many of so many openings a house of this share is at most."""
    return number // share[1] * share[0]


def deal(table, shares):
    """Some deal of right shares."""
    _need_right_shares(table, shares)
    need_even(table)
    number = _number_of(shares)
    # No opening has a house twice: so more copies than openings are of no use.
    wide, owners = copied(table, tuple([min(number, _most_times(number, share)) for share in shares]))
    paints = coats_of(wide, number)
    return tuple([ascending([owner for owner, paint in zip(owners, paints) if paint == at])
                  for at in range(number)])


def _times_in(openings, house):
    return len([opening for opening in openings if house in opening])


def check_deal(table, shares, value):
    """Whether any value is a deal of right shares."""
    _need_right_shares(table, shares)
    number = _number_of(shares)
    if not is_tuple_of(value, number) or not all([is_opening(table, opening) for opening in value]):
        return False
    return all([_times_in(value, house) <= _most_times(number, share)
                for house, share in zip(table.houses, shares)])


def mean_of(table, openings):
    """The shares that are the mean of those of openings."""
    return tuple([fraction(_times_in(openings, house), len(openings)) for house in table.houses])


def cheapest_of(table, prices, openings):
    """The first opening of the least price."""
    return min(openings, key=lambda opening: price_of(table, prices, opening))
