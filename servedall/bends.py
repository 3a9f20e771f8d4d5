"""Rings by bent corners."""

from servedall.errors import Refused
from servedall.orders import bent_corner, is_sorted
from servedall.tables import served_by, serves, without


def _round_from(table, start, end):
    """Some shortest round of names from one house to another one: house, person, house .. house."""
    rounds = {start: (start,)}
    ahead = [start]
    while end not in rounds:
        further = []
        for house in ahead:
            for person in serves(table, house):
                for other in served_by(table, person):
                    if other not in rounds:
                        rounds[other] = (*rounds[house], person, other)
                        further.append(other)
        ahead = further
    return rounds[end]


def ring_by(table, order):
    """Some ring in which the first person of the least bent corner stands between its two houses."""
    if not is_sorted(table, order):
        raise Refused("sorted")
    bend = bent_corner(table, order)
    if bend is None:
        raise Refused("straight")
    person, _, house, other = bend
    # A shortest round over the rest has no short cut: not by the other houses of the person, which
    # are left out here, nor by people whom both houses serve.
    beside = [name for name in served_by(table, person) if name not in (house, other)]
    both = [name for name in serves(table, house) if name in serves(table, other)]
    names = _round_from(without(table, both, beside), other, house)
    return ((person, *names[1::2]), names[::2])
