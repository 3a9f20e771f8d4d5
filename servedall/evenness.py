"""Even papers: a paint for each odd lot of houses; and the least lots of houses that have none."""

from servedall.errors import Refused
from servedall.painting import is_paint
from servedall.tables import grid, left
from servedall.values import is_tuple_of, sublots


def _is_odd_lot(lot):
    return len(lot) > 2 and len(lot) & 1 == 1


def odd_lots(table):
    """All ascending tuples of an odd number of houses, three at least."""
    return tuple(sorted([lot for lot in sublots(table.houses) if _is_odd_lot(lot)]))


def _number_of(row):
    """The place, among all lots of houses, of those at which a row has 1."""
    # Sublots stand in such an order that each house has a bit of its own.
    return sum([one << at for at, one in enumerate(row)])


def _is_tie(lot):
    """Whether the number of a lot has two bits, or fewer: one house alone is tied with nothing."""
    more = lot & (lot - 1)
    return more & (more - 1) == 0


def _tied_with(links, houses):
    """These houses, and all that are tied with them."""
    tied = houses
    for link in links:
        if link & houses:
            tied = tied | link
    return tied


def _loose_of(links, lot):
    """A loose house of a lot: of those that hang together with the first one one of the farthest."""
    reached = lot & -lot
    ahead = reached
    last = reached
    while ahead > 0:
        last = ahead & -ahead
        tied = _tied_with(links, reached)
        ahead = tied ^ reached
        reached = tied
    return last


def _given_back(links, house, paint):
    """The paint of some houses when one more is given back; None if some that are tied with it have it, not all."""
    tied = _tied_with(links, house) ^ house
    if tied & paint == 0:
        return paint | house
    return paint if tied & paint == tied else None


def _paint_of(rows, lot, paints):
    """Some paint of a lot, by those of the lots within it; None if there is none."""
    links = [row & lot for row in rows if _is_tie(row & lot)]
    house = _loose_of(links, lot)
    # What was tied with it hangs together without it, too: so of that there is just one paint and its
    # reverse, and if neither goes with the house, no paint does.
    return _given_back(links, house, paints[lot ^ house])


def _all_paints(table):
    """By numbers: paints of the lots in which each lot has one; and the other lots within which all others have one."""
    rows = sorted(set([_number_of(row) for row in grid(table)]))
    marks = [1 << at for at in range(len(table.houses))]
    paints = {0: 0}
    lost = []
    for lot in range(1, 1 << len(marks)):
        if all([lot ^ mark in paints for mark in marks if lot & mark]):
            paint = _paint_of(rows, lot, paints)
            if paint is None:
                lost.append(lot)
            else:
                paints[lot] = paint
    return (paints, lost)


def even_paper(table):
    """A paint for each odd lot."""
    paints, lost = _all_paints(table)
    if lost:
        raise Refused("odd")
    lots = sublots(table.houses)
    return tuple(sorted([(lot, lots[paints[at]]) for at, lot in enumerate(lots) if _is_odd_lot(lot)]))


def _is_row(table, lot, value):
    """Whether any value is a pair of this lot and a paint of it."""
    return is_tuple_of(value, 2) and value[0] == lot and is_paint(left(table, table.people, lot), value[1])


def check_even(table, value):
    """Whether any value is an even paper."""
    lots = odd_lots(table)
    return is_tuple_of(value, len(lots)) and all([_is_row(table, lot, row) for lot, row in zip(lots, value)])


def unpainted_lots(table):
    """The lots of houses that have no paint, though all lots within them have one."""
    lots = sublots(table.houses)
    _, lost = _all_paints(table)
    return tuple(sorted([lots[at] for at in lost]))
