"""Paying: people who pay, one by one, as much as no house overpays."""

from servedall.errors import Refused
from servedall.fractions import ZERO, least_of, minus, plus, whole
from servedall.prices import asked_of, price_at, spares
from servedall.tables import served_by


def headroom(table, prices, payments, person):
    """The least spare of the houses that serve a person; None if no house does."""
    rooms = [minus(whole(price_at(table, prices, house)), asked_of(table, payments, house))
             for house in served_by(table, person)]
    return least_of(rooms) if rooms else None


def paid_more(table, prices, payments, person):
    """The payments in which a person pays as much more as their houses have to spare."""
    room = headroom(table, prices, payments, person)
    if room is None:
        raise Refused("unserved")
    at = table.people.index(person)
    return (*payments[:at], plus(payments[at], room), *payments[at + 1:])


def paid_in_turn(table, prices, people):
    """The payments that come from 0 if each of some people in turn pays so much more."""
    own = {person: [] for person in table.people}
    for person, house in table.pairs:
        own[person].append(house)
    spare = {house: whole(price) for house, price in zip(table.houses, prices)}
    pays = {person: ZERO for person in table.people}
    for person in people:
        if not own[person]:
            raise Refused("unserved")
        room = least_of([spare[house] for house in own[person]])
        pays[person] = plus(pays[person], room)
        for house in own[person]:
            spare[house] = minus(spare[house], room)
    return tuple([pays[person] for person in table.people])


def wholly_paid(table, prices, payments):
    """The houses whose spare is 0."""
    return tuple([house for house, spare in zip(table.houses, spares(table, prices, payments)) if spare == ZERO])


def is_stuck(table, prices, payments):
    """Whether nobody can pay more: each person has a headroom, and it is 0."""
    return all([headroom(table, prices, payments, person) == ZERO for person in table.people])
