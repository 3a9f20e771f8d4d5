"""Kept: an opening and payments that stay right while a table and its prices change."""

from servedall.deeds import house_gone, house_put, person_gone, person_put, price_put
from servedall.fractions import ZERO, whole
from servedall.middle import least_meet, need_even_case
from servedall.openings import is_opening, least_price, price_of
from servedall.pieces import pieces
from servedall.prices import right_payments, sum_of


def _piece_opening(piece, prices, opening, other):
    """The houses of an opening in a piece, if they are a least opening of it; else another one."""
    own = tuple([house for house in opening if house in piece.houses])
    if is_opening(piece, own) and price_of(piece, prices, own) == least_price(piece, prices):
        return own
    return other


def _piece_payments(piece, prices, pays, other):
    """What the people of a piece pay, new ones 0, if that is right and the least price; else other payments."""
    own = tuple([pays.get(person, ZERO) for person in piece.people])
    if right_payments(piece, prices, own) and sum_of(own) == whole(least_price(piece, prices)):
        return own
    return other


def _papers_behind(table, prices, opening, pays):
    """Some opening and payments that meet, with as much of former ones as can stay, piece by piece."""
    costs = dict(zip(table.houses, prices))
    houses = []
    paid = {}
    for piece in pieces(table):
        own = tuple([costs[house] for house in piece.houses])
        other, payments = least_meet(piece, own)
        houses.extend(_piece_opening(piece, own, opening, other))
        paid.update(dict(zip(piece.people, _piece_payments(piece, own, pays, payments))))
    return (tuple(sorted(houses)), tuple([paid[person] for person in table.people]))


class Kept:
    """A table and prices, some least opening, some right whole payments of its price, and the price."""

    def __init__(self, table, prices):
        need_even_case(table, prices)
        opening, payments = least_meet(table, prices)
        self.table = table
        self.prices = prices
        self.opening = opening
        self.payments = payments
        self.price = price_of(table, prices, opening)

    def _change(self, case):
        table, prices = case
        need_even_case(table, prices)
        before = self.price
        pays = dict(zip(self.table.people, self.payments))
        self.opening, self.payments = _papers_behind(table, prices, self.opening, pays)
        self.table = table
        self.prices = prices
        self.price = price_of(table, prices, self.opening)
        return self.price - before

    def come(self, person, houses):
        """A new person comes; how much the least price rises."""
        return self._change(person_put(self.table, self.prices, person, houses))

    def leave(self, person):
        """A person leaves; how much the least price rises."""
        return self._change(person_gone(self.table, self.prices, person))

    def build(self, house, people, price):
        """A new house comes; how much the least price rises."""
        return self._change(house_put(self.table, self.prices, house, people, price))

    def close(self, house):
        """A house goes; how much the least price rises."""
        return self._change(house_gone(self.table, self.prices, house))

    def set_price(self, house, price):
        """A house has another price; how much the least price rises."""
        return self._change(price_put(self.table, self.prices, house, price))
