"""Rows of ways: a table whose openings and payments tell what houses and trips cost together."""

from servedall.tables import table_of
from servedall.values import LETTERS


def _rows_of(trips):
    """For each row its letters, its trip, the person's next one or None, and all trips of the person."""
    rows = []
    for person, row in enumerate(trips):
        numbers = sorted(set(row))
        for at, number in enumerate(numbers):
            more = numbers[at + 1] if at + 1 < len(numbers) else None
            rows.append((LETTERS[person] + LETTERS[at], number, more, row))
    return rows


def _house_names(many):
    """The names of so many houses."""
    return ["h" + letter for letter in LETTERS[:many]]


def way_table(trips, prices):
    """The table of all rows, served by houses and by further houses, and the prices of its houses."""
    rows = _rows_of(trips)
    houses = _house_names(len(prices))
    pairs = [("p" + name, house) for name, number, _, row in rows
             for house, trip in zip(houses, row) if trip <= number]
    further = [(name, more - number) for name, number, more, _ in rows if more is not None]
    pairs.extend([("p" + name, "w" + name) for name, _ in further])
    table = table_of(["p" + name for name, _, _, _ in rows], houses + ["w" + name for name, _ in further], pairs)
    return (table, (*prices, *[price for _, price in further]))


def least_ways(trips):
    """The sum of the least trips of all people."""
    return sum([min(row) for row in trips])


def forth_opening(trips, opening):
    """The opening of the table with these houses, and the further houses of all rows that they do not serve."""
    houses = ["h" + LETTERS[at] for at in opening]
    further = ["w" + name for name, number, _, row in _rows_of(trips)
               if number < min([row[house] for house in opening])]
    return tuple(sorted(houses + further))


def back_opening(trips, opening):
    """The numbers of the houses in an opening of the table."""
    names = _house_names(len(trips[0]))
    return tuple([number for number, name in enumerate(names) if name in opening])


def back_payments(trips, payments):
    """For each person their least trip and what their rows pay, from whole right payments of the table."""
    paid = {LETTERS[person]: min(row) for person, row in enumerate(trips)}
    for (name, _, _, _), (pays, _) in zip(_rows_of(trips), payments):
        paid[name[0]] = paid[name[0]] + pays
    return tuple(paid.values())
