"""One pass: in an order people pay in turn, and houses are kept."""

from servedall.bends import ring_by
from servedall.errors import Refused
from servedall.fractions import ZERO
from servedall.orders import is_order, is_straight, sorted_order, straight_order
from servedall.paying import paid_in_turn, wholly_paid
from servedall.tables import need_served, serves


def _kept_of(table, payments, houses):
    """Of some houses, from the last one on, those that serve nobody who pays for one kept before."""
    payers = [person for person, pays in zip(table.people, payments) if pays != ZERO]
    chosen = []
    served = []
    for house in reversed(houses):
        people = [person for person in serves(table, house) if person in payers]
        if not [person for person in people if person in served]:
            chosen.append(house)
            served.extend(people)
    return tuple(sorted(chosen))


def pass_by(table, prices, order):
    """The houses that one pass keeps, and the payments."""
    people, houses = order
    payments = paid_in_turn(table, prices, people)
    paid = wholly_paid(table, prices, payments)
    return (_kept_of(table, payments, [house for house in houses if house in paid]), payments)


def _last_among(names, some):
    """The last of some names that is among others, or None."""
    found = [name for name in names if name in some]
    return found[-1] if found else None


def lead_of(table, prices, order, person):
    """Of a person's houses the last one that is paid when they have paid, and the last one that is kept."""
    chosen, _ = pass_by(table, prices, order)
    people, houses = order
    ahead = people[:people.index(person) + 1]
    paid = wholly_paid(table, prices, paid_in_turn(table, prices, ahead))
    own = [house for house in houses if (person, house) in table.pairs]
    return (_last_among(own, paid), _last_among(own, chosen))


def one_pass(table, prices):
    """Some opening and some right whole payments of the same sum, for a table without rings."""
    need_served(table)
    order = straight_order(table)
    if order is None:
        raise Refused("ring")
    return pass_by(table, prices, order)


def order_left(order, people, houses):
    """The order of some people and some houses, as they stand in an order."""
    return (tuple([person for person in order[0] if person in people]),
            tuple([house for house in order[1] if house in houses]))


def ring_paper(table):
    """Some straight order or, if there is none, some ring."""
    order = sorted_order(table)
    if is_straight(table, order):
        return ("straight", order)
    return ("ring", ring_by(table, order))


def is_straight_paper(table, value):
    """Whether any value is a straight order of a table."""
    return is_order(table, value) and is_straight(table, value)
