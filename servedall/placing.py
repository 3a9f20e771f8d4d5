"""Placing: seats on roads for the houses of a table, or a house for which there is none."""

from servedall.roads import ways_from
from servedall.seats import is_seats, road_table
from servedall.tables import serves
from servedall.values import is_tuple_of


def _needs_at(roads, people, place):
    """For each person the reach that a house at a place needs to serve them; it may be below 0."""
    ways = dict(zip(roads.places, ways_from(roads, place)))
    return {name: ways[other] - reach for name, other, reach in people}


def _reach_for(needs, near):
    """The least reach, from 0 on, with which a house serves one person; 0 for nobody."""
    return 0 if near is None else max(0, needs[near])


def _row_of(needs, own):
    """Of a house's people one who needs the greatest reach, and somebody else served with this; or None."""
    near = max(own, key=lambda name: needs[name], default=None)
    reach = _reach_for(needs, near)
    others = [name for name, need in needs.items() if need <= reach and name not in own]
    return (near, others[0] if others else None)


def placing(roads, people, table):
    """Some seats of the houses that make this table, or a house that has none, and why at each place."""
    all_needs = [_needs_at(roads, people, place) for place in roads.places]
    houses = []
    for house in table.houses:
        rows = [_row_of(needs, serves(table, house)) for needs in all_needs]
        seats = [(house, place, _reach_for(needs, near))
                 for place, needs, (near, far) in zip(roads.places, all_needs, rows) if far is None]
        if not seats:
            return ("lost", house, tuple(rows))
        houses.append(seats[0])
    return ("placed", tuple(houses))


def _is_row(table, needs, house, value):
    """Whether any value is a pair (near, far) that shows that a house has no seat at a place."""
    if not is_tuple_of(value, 2):
        return False
    near, far = value
    own = serves(table, house)
    if near is not None and near not in own:
        return False
    return far in table.people and far not in own and needs[far] <= _reach_for(needs, near)


def check_placing(roads, people, table, value):
    """Whether any value is such seats, or such a house with its rows."""
    if is_tuple_of(value, 2):
        return (value[0] == "placed" and is_seats(roads, value[1])
                and road_table(roads, people, value[1]) == table)
    if not is_tuple_of(value, 3) or value[0] != "lost" or value[1] not in table.houses:
        return False
    if not is_tuple_of(value[2], len(roads.places)):
        return False
    return all([_is_row(table, _needs_at(roads, people, place), value[1], row)
                for place, row in zip(roads.places, value[2])])
