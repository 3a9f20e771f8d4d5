"""Paints: houses such that each person with two houses or more has one among them, and one that is not."""

from servedall.errors import InvalidSize, Refused
from servedall.rings import is_odd_ring
from servedall.tables import served_by
from servedall.ties import tie_ring, tied_lots, ties
from servedall.values import among_fault, ascending, is_tuple_of, lots_of


def is_paint(table, value):
    """Whether any value is a paint of a table."""
    if not isinstance(value, tuple) or among_fault(value, table.houses) is not None:
        return False
    for person in table.people:
        houses = served_by(table, person)
        painted_ones = [house for house in houses if house in value]
        if len(houses) > 1 and len(painted_ones) in (0, len(houses)):
            return False
    return True


def _is_loose(house, lot, links):
    """Whether the others of a lot hang together by the links that are among them."""
    others = [other for other in lot if other != house]
    return len(lots_of(others, [(one, other) for one, other in links if one in others and other in others])) < 2


def loose_houses(table, houses):
    """The houses whose lots hang together without them."""
    links = [(one, other) for one, other, _ in ties(table, houses)]
    return ascending([house for lot in tied_lots(table, houses) for house in lot if _is_loose(house, lot, links)])


def _is_taking(table, value):
    """Whether any value is all houses, each of them loose among those that are not ahead."""
    if not is_tuple_of(value, len(table.houses)):
        return False
    still = table.houses
    for house in value:
        if house not in loose_houses(table, still):
            return False
        still = tuple([other for other in still if other != house])
    return True


def _given_back(table, order):
    """The houses that get the first paint when they are given back, the last taken first."""
    back = []
    first = []
    for house in order[::-1]:
        back.append(house)
        tied = [other for link in ties(table, back) if house in link[:2] for other in link[:2] if other != house]
        if tied and not [other for other in tied if other in first]:
            first.append(house)
    return ascending(first)


def painted_back(table, order):
    """The paint of houses that are given back in turn."""
    if not _is_taking(table, order):
        raise InvalidSize("order")
    for at in range(len(order)):
        if tie_ring(table, order[at:]) is not None:
            raise Refused("ring")
    return _given_back(table, order)


def painted(table):
    """Some paint or some odd ring, behind the word for it."""
    order = []
    still = table.houses
    while still:
        ring = tie_ring(table, still)
        if ring is not None:
            return ("ring", ring)
        house = loose_houses(table, still)[0]
        order.append(house)
        still = tuple([other for other in still if other != house])
    return ("paint", _given_back(table, order))


def check_painted(table, value):
    """Whether any value is a paint or an odd ring, behind the word for it."""
    if not is_tuple_of(value, 2):
        return False
    if value[0] == "paint":
        return is_paint(table, value[1])
    return value[0] == "ring" and is_odd_ring(table, value[1])
