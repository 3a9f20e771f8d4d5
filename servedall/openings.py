"""Openings: houses that serve all people, their prices, and the least of these."""

from servedall.errors import InvalidOpening
from servedall.fractions import ONE, ZERO, minus, times, whole
from servedall.prices import right_payments, spares, sum_of
from servedall.tables import served_by
from servedall.values import among_fault


def not_served(table, houses):
    """The people whom none of some houses serves."""
    served = {person: True for person, house in table.pairs if house in houses}
    return tuple([person for person in table.people if person not in served])


def _fault(table, value):
    if not isinstance(value, tuple):
        return -1
    at = among_fault(value, table.houses)
    if at is None and len(not_served(table, value)) > 0:
        return len(value)
    return at


def need_opening(table, value):
    """Raise an error for what is no opening."""
    at = _fault(table, value)
    if at is not None:
        raise InvalidOpening(at)


def is_opening(table, value):
    """Whether any value is an opening."""
    return _fault(table, value) is None


def price_of(table, prices, houses):
    """The sum of the prices of some houses; each counts once."""
    return sum([price for house, price in zip(table.houses, prices) if house in houses])


def gap(table, prices, opening, payments):
    """The price of an opening less the sum of the payments."""
    return minus(whole(price_of(table, prices, opening)), sum_of(payments))


def gap_parts(table, prices, opening, payments):
    """The spares of the opened houses; for each person what they pay for being served more than once."""
    spare = dict(zip(table.houses, spares(table, prices, payments)))
    more = []
    for person, pays in zip(table.people, payments):
        many = len([house for house in served_by(table, person) if house in opening])
        more.append(times(pays, minus(whole(many), ONE)))
    return (tuple([spare[house] for house in opening]), tuple(more))


def check_meet(table, prices, opening, payments):
    """Whether any values are an opening and right payments of the same sum."""
    if not is_opening(table, opening) or not right_payments(table, prices, payments):
        return False
    return gap(table, prices, opening, payments) == ZERO


def _marks(table):
    # One bit for each person: sets of people are numbers here, as there are many of them.
    marks = {}
    for person in table.people:
        marks[person] = 1 << len(marks)
    return marks


def _lots(table, prices):
    marks = _marks(table)
    return [(house, sum([marks[person] for person, other in table.pairs if other == house]), price)
            for house, price in zip(table.houses, prices)]


def _cheapest_for(table, prices, people):
    """The least price of houses that serve some people, and some such houses; None if one of them has no house."""
    marks = _marks(table)
    wanted = sum([marks[person] for person in table.people if person in people])
    # For each lot of people who are still to be served, the least price at which just they are left.
    ways = {wanted: (0, ())}
    for house, lot, price in _lots(table, prices):
        for still, (cost, houses) in list(ways.items()):
            less = still ^ (still & lot)
            if less not in ways or cost + price < ways[less][0]:
                ways[less] = (cost + price, (*houses, house))
    return ways.get(0)


def least_for(table, prices, people):
    """The least price of houses that serve some people; None if one of them has no house."""
    cheapest = _cheapest_for(table, prices, people)
    return None if cheapest is None else cheapest[0]


def cheap_opening(table, prices):
    """Some opening of the least price; None if there is none."""
    cheapest = _cheapest_for(table, prices, table.people)
    return None if cheapest is None else cheapest[1]


def least_price(table, prices):
    """The least price of an opening; None if there is none."""
    return least_for(table, prices, table.people)


def _joined(ways, house, lot, price, most):
    """The ways to leave some people, and then also those with one more house, kept where cheapest."""
    joined = dict(ways)
    for still, (cost, openings) in ways.items():
        less = still ^ (still & lot)
        if cost + price > most:
            continue
        longer = [(*opening, house) for opening in openings]
        if less not in joined or cost + price < joined[less][0]:
            joined[less] = (cost + price, longer)
        elif cost + price == joined[less][0]:
            joined[less] = (cost + price, joined[less][1] + longer)
    return joined


def least_openings(table, prices):
    """All openings of the least price."""
    most = least_price(table, prices)
    if most is None:
        return ()
    ways = {(1 << len(table.people)) - 1: (0, [()])}
    for house, lot, price in _lots(table, prices):
        ways = _joined(ways, house, lot, price, most)
    return tuple(sorted(ways[0][1]))


def first_opening(table, prices):
    """Of the openings of the least price one of the fewest houses, the least one; None if there is none."""
    return min(least_openings(table, prices), key=lambda opening: (len(opening), opening), default=None)
