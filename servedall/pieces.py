"""Pieces: parts of a table that do not hang together, and tables side by side."""

from servedall.errors import NoName, Refused
from servedall.tables import left, table_of
from servedall.values import lots_of


def _lots(table):
    """Pairs of people and houses that hang together: by their first people, then houses that serve nobody."""
    # A person and a house may have one name: so each is told by a number and its name.
    people = [(0, person) for person in table.people]
    houses = [(1, house) for house in table.houses]
    links = [((0, person), (1, house)) for person, house in table.pairs]
    return [(tuple([name for side, name in lot if side == 0]), tuple([name for side, name in lot if side == 1]))
            for lot in lots_of(people + houses, links)]


def together_with(table, person):
    """The people and the houses to which one comes from a person over pairs."""
    if person not in table.people:
        raise NoName(person)
    return [lot for lot in _lots(table) if person in lot[0]][0]


def pieces(table):
    """The parts left of all that hang together."""
    return tuple([left(table, people, houses) for people, houses in _lots(table)])


def _have_common(names, others):
    return len([name for name in names if name in others]) > 0


def beside(one, other):
    """The table of all people, houses and pairs of two tables."""
    if _have_common(one.people, other.people) or _have_common(one.houses, other.houses):
        raise Refused("name")
    return table_of(one.people + other.people, one.houses + other.houses, one.pairs + other.pairs)
