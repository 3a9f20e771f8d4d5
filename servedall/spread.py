"""Spread: houses of one reach at some of the spots of roads, as few as will do."""

from servedall.errors import InvalidSize
from servedall.fractions import ZERO
from servedall.openings import is_opening
from servedall.passes import one_pass
from servedall.roads import ways_from
from servedall.seats import road_table
from servedall.tables import serves, unserved
from servedall.values import among_fault, is_int, is_number, is_tuple_of


def _spot_table(roads, people, spots, reach):
    """The table of houses of one reach at all spots, each called by the name of its place."""
    return road_table(roads, people, [(spot, spot, reach) for spot in spots])


def _fewest(table):
    """The fewest houses that serve all, and as many people of whom no house serves two."""
    # At prices of 1 whole payments are 0 or 1, and no house is paid by two.
    houses, payments = one_pass(table, tuple([1 for _ in table.houses]))
    return (houses, tuple([person for person, pays in zip(table.people, payments) if pays != ZERO]))


def _will_do(table, many):
    return len(unserved(table)) == 0 and len(_fewest(table)[0]) <= many


def _reaches(roads, people, spots):
    """All reaches, ascending, at which a house at a spot begins to serve somebody, and 0."""
    found = {0: True}
    for spot in spots:
        ways = dict(zip(roads.places, ways_from(roads, spot)))
        for _, place, reach in people:
            found[max(0, ways[place] - reach)] = True
    return sorted(found)


def _least_reach(roads, people, spots, many):
    """The least reach with which houses at so many spots serve all."""
    reaches = _reaches(roads, people, spots)
    low = 0
    # With the last reach each spot serves all.
    high = len(reaches) - 1
    while low < high:
        between = (low + high) // 2
        if _will_do(_spot_table(roads, people, spots, reaches[between]), many):
            high = between
        else:
            low = between + 1
    return reaches[low]


def _apart_of(table, many):
    """One person whom no house serves, or one more than many of whom no house serves two."""
    lost = unserved(table)
    if lost:
        return lost[:1]
    return _fewest(table)[1][:many + 1]


def spread(roads, people, spots, many):
    """The least reach that will do, the places of as few houses, and people for whom less will not do."""
    if not is_int(many) or many < 1:
        raise InvalidSize("many")
    reach = _least_reach(roads, people, spots, many)
    places, _ = _fewest(_spot_table(roads, people, spots, reach))
    if reach == 0:
        return (reach, places, ())
    return (reach, places, _apart_of(_spot_table(roads, people, spots, reach - 1), many))


def _is_apart(table, many, value):
    """Whether any value is names that show that so many of these houses do not serve all."""
    if not isinstance(value, tuple) or among_fault(value, table.people) is not None:
        return False
    if len(value) == 1:
        return value[0] in unserved(table)
    served = [[person for person in serves(table, house) if person in value] for house in table.houses]
    return len(value) == many + 1 and all([len(lot) < 2 for lot in served])


def check_spread(roads, people, spots, many, value):
    """Whether any value is the least reach, places, and people for whom less will not do."""
    if not is_tuple_of(value, 3) or not is_number(value[0]):
        return False
    reach, places, names = value
    if not is_opening(_spot_table(roads, people, spots, reach), places) or len(places) > many:
        return False
    if reach == 0:
        return names == ()
    return _is_apart(_spot_table(roads, people, spots, reach - 1), many, names)
