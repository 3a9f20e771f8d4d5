"""Packing: houses apart, of which no two serve one person, and covers of what houses are worth."""

from servedall.copies import with_own_houses
from servedall.errors import Refused
from servedall.fractions import ZERO, compared, minus, whole
from servedall.middle import least_meet
from servedall.openings import not_served, price_of
from servedall.prices import are_pays, asked_of, need_prices, sum_of
from servedall.shares import paid_to
from servedall.tables import serves
from servedall.ties import need_even
from servedall.values import among_fault, kept


class Packed:
    """Houses apart and a cover, unchecked."""

    def __init__(self, lot, cover):
        self.lot = kept(lot)
        self.cover = kept(cover)

    def __eq__(self, other):
        return isinstance(other, Packed) and self.lot == other.lot and self.cover == other.cover


def is_apart(table, value):
    """Whether any value is an ascending tuple of houses of which no two serve one person."""
    if not isinstance(value, tuple) or among_fault(value, table.houses) is not None:
        return False
    people = [person for person, house in table.pairs if house in value]
    return len(set(people)) == len(people)


def apart_lots(table):
    """All ascending tuples of houses apart."""
    lots = [((), ())]
    for house in table.houses:
        people = serves(table, house)
        lots = lots + [((*lot, house), served + people) for lot, served in lots
                       if not [person for person in people if person in served]]
    return tuple(sorted([lot for lot, _ in lots]))


def _worthiest(table, worths):
    """Some houses apart of the greatest worth."""
    return max(apart_lots(table), key=lambda lot: price_of(table, worths, lot))


def greatest_worth(table, worths):
    """The greatest sum of worths of houses apart."""
    need_prices(table, worths)
    return price_of(table, worths, _worthiest(table, worths))


def _is_cover(table, worths, value):
    if not are_pays(table, value):
        return False
    return all([compared(paid, whole(worth)) >= 0 for paid, worth in zip(paid_to(table, value), worths)])


def is_cover(table, worths, value):
    """Whether any value is fractions, one for each person, of which each house's people have its worth."""
    need_prices(table, worths)
    return _is_cover(table, worths, value)


def gap_rows(table, worths, lot, cover):
    """What a lot's people have above its worths, by houses; and what people have whom it does not serve."""
    need_prices(table, worths)
    worth = dict(zip(table.houses, worths))
    left_out = not_served(table, lot)
    return (tuple([minus(asked_of(table, cover, house), whole(worth[house])) for house in lot]),
            tuple([one if person in left_out else ZERO for person, one in zip(table.people, cover)]))


def _need_use(table, worths):
    need_prices(table, worths)
    if not all([worth == 0 or serves(table, house) for house, worth in zip(table.houses, worths)]):
        raise Refused("idle")


def _slack_of(table, worths):
    """The price of a house of a person's own, and those of all houses of the wide table."""
    own = sum(worths) + 1
    old = [own * len(serves(table, house)) - worth for house, worth in zip(table.houses, worths)]
    return (own, (*old, *[own for _ in table.people]))


def slack_table(table, worths):
    """The table with a house more for each person, and prices at which a least opening leaves out the most worth."""
    _need_use(table, worths)
    return (with_own_houses(table), _slack_of(table, worths)[1])


def check_packed(table, worths, value):
    """Whether any value is houses apart and a cover of one sum."""
    need_prices(table, worths)
    if not isinstance(value, Packed) or not is_apart(table, value.lot) or not _is_cover(table, worths, value.cover):
        return False
    return whole(price_of(table, worths, value.lot)) == sum_of(value.cover)


def packed_of(table, worths):
    """Some houses apart and whole cover of one sum, for an even table without idle houses of worth."""
    own, prices = _slack_of(table, worths)
    # What people do not pay of their own house's price covers what houses are worth.
    _, payments = least_meet(with_own_houses(table), prices)
    return Packed(_worthiest(table, worths), tuple([minus(whole(own), pays) for pays in payments]))


def packed(table, worths):
    """Some houses apart and a whole cover of one sum."""
    _need_use(table, worths)
    need_even(table)
    return packed_of(table, worths)
