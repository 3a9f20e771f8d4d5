"""Parts: odd rings, and the prices at which openings and payments part there."""

from servedall.errors import InvalidRing
from servedall.fractions import fraction, whole
from servedall.rings import is_odd_ring
from servedall.ties import odd_ring
from servedall.values import ascending, kept, number_fault


class Parts:
    """A ring, its people, its houses and prices of these, unchecked."""

    def __init__(self, ring, people, houses, prices):
        self.ring = kept(ring)
        self.people = kept(people)
        self.houses = kept(houses)
        self.prices = kept(prices)

    def __eq__(self, other):
        return (isinstance(other, Parts) and self.ring == other.ring and self.people == other.people
                and self.houses == other.houses and self.prices == other.prices)


def _parts_of(ring):
    people, houses = ring
    return Parts(ring, ascending(people), ascending(houses), tuple([1 for _ in houses]))


def verdict(table):
    """None for an even table, else the parts of some odd ring."""
    ring = odd_ring(table)
    return None if ring is None else _parts_of(ring)


def check_parts(table, value):
    """Whether any value is the parts of an odd ring of a table."""
    if not isinstance(value, Parts) or not is_odd_ring(table, value.ring):
        return False
    # Python takes True for 1: so the prices are looked at once more.
    return value == _parts_of(value.ring) and number_fault(value.prices) is None


def _size_of(table, ring):
    """How many people an odd ring has."""
    if not is_odd_ring(table, ring):
        raise InvalidRing(-1)
    return len(ring[0])


def gap_of(table, ring):
    """The least price and the greatest sum of right payments of an odd ring left alone, at prices of 1."""
    size = _size_of(table, ring)
    return (whole((size + 1) // 2), fraction(size, 2))


def half_payments(table, ring):
    """Payments of 1 / 2 by all people of an odd ring."""
    return tuple([(1, 2) for _ in range(_size_of(table, ring))])
