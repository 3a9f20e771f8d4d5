"""Copies of houses, and coats: paints of which each person sees many unlike ones."""

from servedall.errors import InvalidSize
from servedall.painting import painted
from servedall.tables import left, served_by, serves, table_of
from servedall.ties import need_even
from servedall.values import is_int, is_tuple_of, letter_names, number_fault

_MOST_COPIES = 600
_MOST_PAINTS = 60


def _is_copies(table, value):
    if not is_tuple_of(value, len(table.houses)) or number_fault(value) is not None:
        return False
    return sum(value) <= _MOST_COPIES


def copied(table, copies):
    """The table with so many houses in the place of each one, and for each of them which one it copies."""
    if not _is_copies(table, copies):
        raise InvalidSize("copies")
    owners = tuple([house for house, many in zip(table.houses, copies) for _ in range(many)])
    names = letter_names(len(owners))
    pairs = [(person, name) for name, owner in zip(names, owners) for person in serves(table, owner)]
    return (table_of(table.people, names, pairs), owners)


def with_own_houses(table):
    """The table with one more house for each person, that serves them alone; all houses called by letters."""
    names = letter_names(len(table.houses) + len(table.people))
    called = dict(zip(table.houses, names))
    pairs = [(person, called[house]) for person, house in table.pairs]
    return table_of(table.people, names, pairs + list(zip(table.people, names[len(table.houses):])))


def _paints_of(table, paints, person):
    """The paints of all houses of a person."""
    houses = served_by(table, person)
    return [paint for house, paint in zip(table.houses, paints) if house in houses]


def seen(table, paints):
    """For each person how many unlike paints their houses have."""
    return tuple([len(set(_paints_of(table, paints, person))) for person in table.people])


def _need_many(many):
    if not is_int(many) or not 1 <= many <= _MOST_PAINTS:
        raise InvalidSize("many")


def _lacking(table, many, paints):
    """The first person who sees fewer unlike paints than there are, and than they have houses, or None."""
    for person, sees in zip(table.people, seen(table, paints)):
        if sees < min(many, len(served_by(table, person))):
            return person
    return None


def check_coats(table, many, value):
    """Whether any value is coats of a table in many paints."""
    _need_many(many)
    if not is_tuple_of(value, len(table.houses)) or number_fault(value) is not None:
        return False
    return max(value, default=0) < many and _lacking(table, many, value) is None


def _painted_anew(table, many, paints, person):
    """Paints of which a lacking person sees one more, and nobody sees fewer."""
    own = _paints_of(table, paints, person)
    twice = [paint for paint in own if own.count(paint) > 1][0]
    never = [paint for paint in range(many) if paint not in own][0]
    houses = [house for house, paint in zip(table.houses, paints) if paint in (twice, never)]
    # An even table has no odd ring: so what comes back is a paint.
    _, first = painted(left(table, table.people, houses))
    new = {house: never if house in first else twice for house in houses}
    return tuple([new.get(house, paint) for house, paint in zip(table.houses, paints)])


def coats_of(table, many):
    """Some coats of an even table in any number of paints."""
    paints = tuple([at % many for at in range(len(table.houses))])
    person = _lacking(table, many, paints)
    while person is not None:
        paints = _painted_anew(table, many, paints, person)
        person = _lacking(table, many, paints)
    return paints


def coats(table, many):
    """Some coats of a table in many paints."""
    _need_many(many)
    need_even(table)
    return coats_of(table, many)
