"""Rings: rounds of people and houses without a short cut."""

from servedall.errors import InvalidRing
from servedall.tables import left
from servedall.values import is_pair_of_tuples, unlike_fault


def round_fault(table, value, least, stands):
    """Why any value is no round of so many people and houses at least, where each person stands; or None."""
    if not is_pair_of_tuples(value) or len(value[0]) != len(value[1]) or len(value[0]) < least:
        return -1
    people, houses = value
    at = unlike_fault(people, table.people)
    if at is not None:
        return (0, at)
    at = unlike_fault(houses, table.houses)
    if at is not None:
        return (1, at)
    for at, person in enumerate(people):
        if not stands(table, person, houses, at):
            return (2, at)
    return None


def _stands(table, person, houses, at):
    """Whether just the house at a place and the one before it serve a person, of all houses of a ring."""
    by = [house for house in houses if (person, house) in table.pairs]
    return len(by) == 2 and houses[at] in by and houses[at - 1] in by


def _fault(table, value):
    return round_fault(table, value, 3, _stands)


def need_ring(table, value):
    """Raise an error for what is no ring."""
    at = _fault(table, value)
    if at is not None:
        raise InvalidRing(at)


def is_ring(table, value):
    """Whether any value is a ring."""
    return _fault(table, value) is None


def is_odd_ring(table, value):
    """Whether any value is a ring of an odd number of people."""
    return is_ring(table, value) and len(value[0]) & 1 == 1


def ring_forms(ring):
    """All rings of the same round: begun at each place, and gone the other way."""
    people, houses = ring
    back = (people[:1] + people[:0:-1], houses[::-1])
    forms = []
    for names, others in (ring, back):
        for at in range(len(names)):
            forms.append((names[at:] + names[:at], others[at:] + others[:at]))
    return tuple(sorted(forms))


def least_form(ring):
    """The least of the forms of a ring."""
    return ring_forms(ring)[0]


def turned_ring(ring):
    """The same round as a ring of the turned table."""
    people, houses = ring
    return (houses, people[1:] + people[:1])


def ring_part(table, ring):
    """The part left of the people and houses of a ring."""
    return left(table, ring[0], ring[1])
