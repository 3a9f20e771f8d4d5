"""Ties: houses joined by people whom just two of some houses serve; and the rings of a table."""

from servedall.errors import Refused
from servedall.orders import straight_order
from servedall.rings import least_form
from servedall.tables import left, served_by, serves
from servedall.values import lots_of


def ties(table, houses):
    """The pairs of tied houses, each with the least person whom just the two serve of these houses."""
    found = {}
    for person in table.people:
        own = tuple([house for house in served_by(table, person) if house in houses])
        if len(own) == 2:
            found.setdefault(own, person)
    return tuple(sorted([(one, other, person) for (one, other), person in found.items()]))


def tied_lots(table, houses):
    """The lots of houses that hang together by ties."""
    return tuple(lots_of(houses, [(one, other) for one, other, _ in ties(table, houses)]))


def _tied_to(links, house):
    """Pairs of each house that is tied with this one, and the person."""
    found = []
    for one, other, person in links:
        if house in (one, other):
            found.append((other if house == one else one, person))
    return found


def _ring_of(one, other, person):
    """The ring of two ways, pairs (people, houses) from one house, whose last houses are tied by a person."""
    common = len([house for house, beside in zip(one[1], other[1]) if house == beside])
    people = one[0][common - 1:] + (person,) + other[0][common - 1:][::-1]
    return (people[-1:] + people[:-1], one[1][common - 1:] + other[1][common:][::-1])


def _odd_round(links, start):
    """Some odd ring of houses that hang together with a first one by ties, or None."""
    ways = {start: ((), (start,))}
    ahead = [start]
    while ahead:
        further = []
        for house in ahead:
            people, houses = ways[house]
            for other, person in _tied_to(links, house):
                if other not in ways:
                    ways[other] = ((*people, person), (*houses, other))
                    further.append(other)
                elif len(ways[other][1]) == len(houses):
                    # Both are equally far from the first house: so the ties of both ways, where these
                    # have parted, and this one are odd in number.
                    return _ring_of(ways[house], ways[other], person)
        ahead = further
    return None


def tie_ring(table, houses):
    """Some odd ring of some of these houses whose people are served by just two of them; None if there is none."""
    links = ties(table, houses)
    for lot in tied_lots(table, houses):
        ring = _odd_round(links, lot[0])
        if ring is not None:
            return ring
    return None


def _is_beside(pairs, person, houses):
    """Whether a person is served by one of some houses."""
    return len([house for house in houses if (person, house) in pairs]) > 0


def _longer(table, pairs, path):
    """The path with one more person and house, in each way that makes no short cut."""
    people, houses = path
    found = []
    for person in serves(table, houses[-1]):
        if _is_beside(pairs, person, houses[:-1]):
            continue
        for house in served_by(table, person):
            # A ring is begun at its least house alone: so it is not found at each place. All other houses
            # of the path serve somebody on it.
            if house > houses[0] and not [one for one in people if (one, house) in pairs]:
                found.append(((*people, person), (*houses, house)))
    return found


def _closed(table, pairs, path):
    """The rings that one more person makes of a path."""
    people, houses = path
    if len(houses) < 3:
        return []
    return [((person, *people), houses) for person in serves(table, houses[-1])
            if (person, houses[0]) in pairs and not _is_beside(pairs, person, houses[1:-1])]


def _all_of(step, table, paths):
    pairs = {pair: True for pair in table.pairs}
    return [found for path in paths for found in step(table, pairs, path)]


def _first_paths(table):
    return [((), (house,)) for house in table.houses]


def _one_of_each(table):
    """The part left of one house of those that serve the same people, if they serve two or more."""
    # No ring has two houses that are alike: so there are rings of each size here, too.
    lots = {}
    for house in table.houses:
        people = serves(table, house)
        if len(people) > 1:
            lots.setdefault(people, house)
    return left(table, table.people, list(lots.values()))


def _fewest(table, odd):
    """Some ring, or some odd ring alone, of the fewest people; None if there is none."""
    part = _one_of_each(table)
    paths = _first_paths(part)
    while paths:
        rings = _all_of(_closed, part, paths)
        if rings and not (odd and len(rings[0][0]) & 1 == 0):
            return rings[0]
        paths = _all_of(_longer, part, paths)
    return None


def any_ring(table):
    """Some ring of the fewest people; None if there is none."""
    return _fewest(table, False)


def odd_ring(table):
    """Some odd ring of the fewest people; None if there is none."""
    return _fewest(table, True)


def all_rings(table):
    """All rings in their least forms."""
    found = {}
    paths = _first_paths(table)
    while paths:
        for ring in _all_of(_closed, table, paths):
            found[least_form(ring)] = True
        paths = _all_of(_longer, table, paths)
    return tuple(sorted(found))


def is_even(table):
    """Whether a table has no odd ring."""
    return odd_ring(table) is None


def need_even(table):
    """Refuse a table that has an odd ring."""
    if not is_even(table):
        raise Refused("odd")


def is_ringless(table):
    """Whether a table has no ring."""
    # Just the tables without rings have a straight order, and sorting finds it without a search.
    return straight_order(table) is not None
