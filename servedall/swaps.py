"""Swaps: ways from person to person on which a lot of houses apart is exchanged for one of one house more."""

from servedall.errors import Refused
from servedall.openings import not_served
from servedall.packing import packed_of
from servedall.pairs import need_two_by_two
from servedall.tables import served_by, serves
from servedall.ties import is_even
from servedall.values import ascending, is_pair_of_tuples, unlike_fault


def _is_way(table, people, houses):
    """Whether any values are unlike people and, between each two of them, a house that serves just both."""
    if unlike_fault(people, table.people) is not None:
        return False
    return all([(people[at], house) in table.pairs and (people[at + 1], house) in table.pairs
                for at, house in enumerate(houses)])


def check_swap(table, lot, value):
    """Whether any value is a swap of houses apart."""
    need_two_by_two(table)
    if not is_pair_of_tuples(value) or len(value[0]) != len(value[1]) + 1 or len(value[1]) & 1 == 0:
        return False
    people, houses = value
    if not _is_way(table, people, houses):
        return False
    if not all([(house in lot) == (at & 1 == 1) for at, house in enumerate(houses)]):
        return False
    left_out = not_served(table, lot)
    return people[0] in left_out and people[-1] in left_out


def _across(table, house, person):
    """The other person whom a house serves."""
    return [other for other in serves(table, house) if other != person][0]


def _steps(table, way, among):
    """The ways that are longer by one of some houses, and the person beyond, unless they are on it."""
    people, houses = way
    return [((*people, _across(table, house, people[-1])), (*houses, house))
            for house in served_by(table, people[-1])
            if house in among and _across(table, house, people[-1]) not in people]


def find_swap(table, lot):
    """Some swap of houses apart; None if there is none."""
    need_two_by_two(table)
    left_out = not_served(table, lot)
    ways = [((person,), ()) for person in left_out]
    while ways:
        # Whoever is served by the lot has come over that house: so it leads to nobody else.
        longer = [step for way in ways for step in _steps(table, way, table.houses)]
        swaps = [way for way in longer if way[0][-1] in left_out]
        if swaps:
            return swaps[0]
        ways = [step for way in longer for step in _steps(table, way, lot)]
    return None


def swapped(lot, swap):
    """The houses that are in just one of a lot and a swap."""
    _, houses = swap
    return ascending([house for house in (*lot, *houses) if (house in lot) != (house in houses)])


def most_apart(table):
    """Some lot of the most houses apart."""
    lot = ()
    swap = find_swap(table, lot)
    while swap is not None:
        lot = swapped(lot, swap)
        swap = find_swap(table, lot)
    return lot


def meeting_people(table, lot):
    """As few people as a lot of the most houses apart has houses, of whom each house serves one at least."""
    need_two_by_two(table)
    if not is_even(table):
        raise Refused("ring")
    if find_swap(table, lot) is not None:
        raise Refused("swap")
    # A whole cover of worths of 1 has no more than one for each house of the lot.
    cover = packed_of(table, tuple([1 for _ in table.houses])).cover
    return tuple([person for person, one in zip(table.people, cover) if one[0] > 0])
