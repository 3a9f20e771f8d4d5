"""Tables whose least openings cost much more than their least shares."""

from servedall.changing import least_cost
from servedall.errors import InvalidSize, Refused
from servedall.fractions import ZERO, over, whole
from servedall.tables import table_of
from servedall.values import LETTERS, is_int


def _need_size(size, low, high):
    if not is_int(size) or not low <= size <= high:
        raise InvalidSize("size")


def ring_table(size):
    """A ring of so many people and houses, each person and house called by a letter."""
    _need_size(size, 3, 16)
    names = LETTERS[:size]
    pairs = [(name, name) for name in names] + [(name, names[at - 1]) for at, name in enumerate(names)]
    return table_of(list(names), list(names), pairs)


def _is_odd(number):
    """Whether a number, written in binary, has an odd number of places with a 1."""
    odd = False
    while number > 0:
        odd = odd != (number & 1 == 1)
        number = number >> 1
    return odd


def dot_table(size):
    """People and houses for all numbers of so many binary places but 0; serving goes by common places."""
    _need_size(size, 1, 4)
    names = LETTERS[:(1 << size) - 1]
    pairs = [(person, house) for i, person in enumerate(names) for j, house in enumerate(names)
             if _is_odd((i + 1) & (j + 1))]
    return table_of(list(names), list(names), pairs)


def distance(table, prices, price):
    """A price over the least cost of shares."""
    cost = least_cost(table, prices)
    if cost == ZERO:
        raise Refused("free")
    return over(whole(price), cost)
