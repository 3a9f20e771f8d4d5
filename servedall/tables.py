"""Tables: people, houses, and the pairs that tell who is served by which house."""

from servedall.errors import InvalidTable, NoName, Refused
from servedall.values import ascending, is_tuple_of, kept, name_fault


class Table:
    """People, houses and pairs, unchecked."""

    def __init__(self, people, houses, pairs):
        self.people = kept(people)
        self.houses = kept(houses)
        self.pairs = kept(pairs)

    def __eq__(self, other):
        return (isinstance(other, Table) and self.people == other.people
                and self.houses == other.houses and self.pairs == other.pairs)


def _is_of_three_tuples(value):
    if not isinstance(value, Table):
        return False
    return all([isinstance(part, tuple) for part in (value.people, value.houses, value.pairs)])


def _is_pair(table, value):
    return is_tuple_of(value, 2) and value[0] in table.people and value[1] in table.houses


def _pair_fault(table):
    for at, pair in enumerate(table.pairs):
        if not _is_pair(table, pair) or at > 0 and pair <= table.pairs[at - 1]:
            return at
    return None


def _fault(value):
    if not _is_of_three_tuples(value):
        return -1
    at = name_fault(value.people)
    if at is not None:
        return (0, at)
    at = name_fault(value.houses)
    if at is not None:
        return (1, at)
    at = _pair_fault(value)
    if at is not None:
        return (2, at)
    return None


def need_table(value):
    """Raise an error for what is no table."""
    at = _fault(value)
    if at is not None:
        raise InvalidTable(at)


def is_table(value):
    """Whether any value is a table."""
    return _fault(value) is None


def table_of(people, houses, pairs):
    """The table of three sequences, in any order and also with something twice."""
    return Table(ascending(people), ascending(houses), ascending([tuple(pair) for pair in pairs]))


def served_by(table, person):
    """The houses that serve a person."""
    if person not in table.people:
        raise NoName(person)
    return tuple([house for other, house in table.pairs if other == person])


def serves(table, house):
    """The people whom a house serves."""
    if house not in table.houses:
        raise NoName(house)
    return tuple([person for person, other in table.pairs if other == house])


def unserved(table):
    """The people whom no house serves."""
    served = {person: True for person, _ in table.pairs}
    return tuple([person for person in table.people if person not in served])


def is_servable(table):
    """Whether each person has a house."""
    return len(unserved(table)) == 0


def need_served(table):
    """Refuse a table in which some person has no house."""
    if not is_servable(table):
        raise Refused("unserved")


def most_houses(table):
    """The greatest number of houses that a person has."""
    return max([len(served_by(table, person)) for person in table.people], default=0)


def most_people(table):
    """The greatest number of people that a house has."""
    return max([len(serves(table, house)) for house in table.houses], default=0)


def grid(table):
    """For each person a row of 1 for a house that serves them, 0 for another one."""
    pairs = {pair: True for pair in table.pairs}
    return tuple([tuple([1 if (person, house) in pairs else 0 for house in table.houses])
                  for person in table.people])


def left(table, people, houses):
    """The part left of some people and some houses."""
    pairs = [(person, house) for person, house in table.pairs if person in people and house in houses]
    return Table(tuple([person for person in table.people if person in people]),
                 tuple([house for house in table.houses if house in houses]), tuple(pairs))


def without(table, people, houses):
    """The part left of all but some people and some houses."""
    return left(table, [person for person in table.people if person not in people],
                [house for house in table.houses if house not in houses])


def turned(table):
    """The table in which people and houses are exchanged."""
    return Table(table.houses, table.people, ascending([(house, person) for person, house in table.pairs]))
