"""Seats: people and houses at places of roads, and who is served by which house there."""

from servedall.errors import InvalidRoads
from servedall.roads import ways_from
from servedall.tables import table_of
from servedall.values import is_name, is_number, is_tuple_of


def _is_seat(roads, value):
    if not is_tuple_of(value, 3):
        return False
    return is_name(value[0]) and value[1] in roads.places and is_number(value[2])


def _fault(roads, value):
    if not isinstance(value, tuple):
        return -1
    for at, seat in enumerate(value):
        if not _is_seat(roads, seat) or at > 0 and seat[0] <= value[at - 1][0]:
            return at
    return None


def need_seats(roads, value):
    """Raise an error for what are no seats."""
    at = _fault(roads, value)
    if at is not None:
        raise InvalidRoads(at)


def is_seats(roads, value):
    """Whether any value is seats."""
    return _fault(roads, value) is None


def road_table(roads, people, houses):
    """The table in which a house serves whoever is not farther than both reaches together."""
    pairs = []
    for house, place, reach in houses:
        ways = dict(zip(roads.places, ways_from(roads, place)))
        pairs.extend([(person, house) for person, other, further in people if ways[other] <= reach + further])
    return table_of([name for name, _, _ in people], [name for name, _, _ in houses], pairs)


def nearest(roads, houses, place):
    """The name of the house whose way to a place, less its reach, is the least; None if there is no house."""
    ways = dict(zip(roads.places, ways_from(roads, place)))
    _, foremost = min([(ways[other] - reach, name) for name, other, reach in houses], default=(0, None))
    return foremost


def districts(roads, houses):
    """For each house the places whose nearest it is."""
    names = [nearest(roads, houses, place) for place in roads.places]
    return tuple([(house, tuple([place for place, name in zip(roads.places, names) if name == house]))
                  for house, _, _ in houses])
