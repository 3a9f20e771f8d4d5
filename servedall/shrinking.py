"""Shrinking: steps that make a table smaller, and leave what a least opening needs."""

from servedall.deeds import house_gone
from servedall.errors import Refused
from servedall.prices import price_at
from servedall.tables import served_by, serves, without


def _couples(lots):
    """All pairs of unlike names, the first one with all that the second one has."""
    return [(one, other) for one in lots for other in lots
            if one != other and all([name in lots[one] for name in lots[other]])]


def shrinks(table, prices):
    """All steps that can be made."""
    people = {person: served_by(table, person) for person in table.people}
    houses = {house: serves(table, house) for house in table.houses}
    steps = [("forced", person, lot[0]) for person, lot in people.items() if len(lot) == 1]
    steps.extend([("person", one, other) for one, other in _couples(people)])
    steps.extend([("house", one, other) for other, one in _couples(houses)
                  if price_at(table, prices, other) <= price_at(table, prices, one)])
    steps.extend([("idle", house) for house, lot in houses.items() if len(lot) == 0])
    return tuple(sorted(steps))


def _behind(opened, table, prices, step):
    """The houses opened, the table and its prices behind a step."""
    if step[0] == "person":
        return (opened, without(table, (step[1],), ()), prices)
    if step[0] != "forced":
        rest, rest_prices = house_gone(table, prices, step[1])
        return (opened, rest, rest_prices)
    rest, rest_prices = house_gone(table, prices, step[2])
    return ([*opened, step[2]], without(rest, serves(table, step[2]), ()), rest_prices)


def shrunk(table, prices, steps):
    """The houses opened, the table left and the prices of its houses, behind some steps."""
    opened = []
    for step in steps:
        if step not in shrinks(table, prices):
            raise Refused("step")
        opened, table, prices = _behind(opened, table, prices, step)
    return (tuple(sorted(opened)), table, prices)


def shrink_all(table, prices):
    """The steps made if the least one is made again and again."""
    made = []
    steps = shrinks(table, prices)
    while steps:
        made.append(steps[0])
        _, table, prices = _behind((), table, prices, steps[0])
        steps = shrinks(table, prices)
    return tuple(made)
