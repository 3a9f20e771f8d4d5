"""Orders of the people and houses of a table."""

from servedall.errors import InvalidSize
from servedall.values import is_pair_of_tuples


def _is_lot(things, names):
    return len(things) == len(names) and all([name in things for name in names])


def is_order(table, value):
    """Whether any value is an order of a table."""
    if not is_pair_of_tuples(value):
        return False
    return _is_lot(value[0], table.people) and _is_lot(value[1], table.houses)


def need_order(table, value):
    """Raise an error for what is no order."""
    if not is_order(table, value):
        raise InvalidSize("order")


def _bend_of(lots, i, j):
    """The least places of two houses that are bent behind the people at two places, or None."""
    both = [at for at, lot in enumerate(lots) if lot[i] and lot[j]]
    alone = [at for at, lot in enumerate(lots) if lot[i] and not lot[j]]
    if both and alone and both[0] < alone[-1]:
        return (both[0], min([at for at in alone if at > both[0]]))
    return None


def bent_corner(table, order):
    """The least bent corner by its places, or None."""
    people, houses = order
    pairs = {pair: True for pair in table.pairs}
    lots = [[(person, house) in pairs for person in people] for house in houses]
    for i in range(len(people)):
        for j in range(i + 1, len(people)):
            bend = _bend_of(lots, i, j)
            if bend is not None:
                return (people[i], people[j], houses[bend[0]], houses[bend[1]])
    return None


def is_straight(table, order):
    """Whether an order has no bent corner."""
    return bent_corner(table, order) is None


def _rows(names, others, pairs):
    """For each name its row as a number, the other one that stands last counting most."""
    worths = {}
    for other in others:
        worths[other] = 1 << len(worths)
    rows = {name: 0 for name in names}
    for name, other in pairs:
        rows[name] += worths[other]
    return rows


def _houses_first(table):
    return [(house, person) for person, house in table.pairs]


def _is_rising(names, rows):
    return all([rows[one] <= rows[other] for one, other in zip(names, names[1:])])


def is_sorted(table, order):
    """Whether no row, read backwards, is less than the one ahead."""
    people, houses = order
    return (_is_rising(people, _rows(people, houses, table.pairs))
            and _is_rising(houses, _rows(houses, people, _houses_first(table))))


def sorted_order(table):
    """Some sorted order."""
    order = (table.people, table.houses)
    turned_pairs = _houses_first(table)
    while not is_sorted(table, order):
        people, houses = order
        rows = _rows(people, houses, table.pairs)
        people = tuple(sorted(people, key=lambda person: rows[person]))
        columns = _rows(houses, people, turned_pairs)
        order = (people, tuple(sorted(houses, key=lambda house: columns[house])))
    return order


def worth_of(table, order):
    """All 0 and 1 of the table in this order, by the sums of the places, the greatest first."""
    people, houses = order
    pairs = {pair: True for pair in table.pairs}
    worth = []
    for total in reversed(range(len(people) + len(houses) - 1)):
        for i, person in enumerate(people):
            if 0 <= total - i < len(houses):
                worth.append(1 if (person, houses[total - i]) in pairs else 0)
    return tuple(worth)


def straight_order(table):
    """Some straight order, or None."""
    order = sorted_order(table)
    return order if is_straight(table, order) else None
