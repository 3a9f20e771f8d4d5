"""Changes of a table with prices."""

from servedall.errors import InvalidSize, NoName, Refused
from servedall.prices import repriced
from servedall.tables import table_of, without
from servedall.values import is_name, is_number


def _need_new(value, names, word):
    if not is_name(value):
        raise InvalidSize(word)
    if value in names:
        raise Refused("name")


def _need_there(value, names):
    if value not in names:
        raise NoName(value)


def _need_price(value):
    if not is_number(value):
        raise InvalidSize("price")


def person_put(table, prices, person, houses):
    """A new person whom some of the houses serve."""
    _need_new(person, table.people, "person")
    pairs = [*table.pairs, *[(person, house) for house in houses]]
    return (table_of([*table.people, person], table.houses, pairs), tuple(prices))


def person_gone(table, prices, person):
    """A person not any more."""
    _need_there(person, table.people)
    return (without(table, (person,), ()), tuple(prices))


def house_put(table, prices, house, people, price):
    """A new house that serves some of the people."""
    _need_new(house, table.houses, "house")
    _need_price(price)
    at = len([name for name in table.houses if name < house])
    pairs = [*table.pairs, *[(person, house) for person in people]]
    return (table_of(table.people, [*table.houses, house], pairs), (*prices[:at], price, *prices[at:]))


def house_gone(table, prices, house):
    """A house not any more."""
    _need_there(house, table.houses)
    at = table.houses.index(house)
    return (without(table, (), (house,)), (*prices[:at], *prices[at + 1:]))


def price_put(table, prices, house, price):
    """Another price for a house."""
    _need_there(house, table.houses)
    _need_price(price)
    return (table, repriced(table, prices, house, price))
