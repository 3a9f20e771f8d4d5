"""Quick openings: each time the house that is the cheapest for those whom it newly serves."""

from servedall.fractions import compared, fraction, over, total_of
from servedall.prices import price_at
from servedall.tables import most_people, need_served, serves


def harmonic(number):
    """1 and 1/2 and so on, up to 1 over a number, in sum."""
    return total_of([(1, below) for below in range(1, number + 1)])


def _next_row(table, prices, still):
    """The house with the least price for each of those still to be served, with them and that price."""
    best = None
    for house, price in zip(table.houses, prices):
        people = tuple([person for person in serves(table, house) if person in still])
        if people:
            each = fraction(price, len(people))
            if best is None or compared(each, best[2]) < 0:
                best = (house, people, each)
    return best[:2]


def quick_rows(table, prices):
    """Each house opened and the people whom it newly serves, in this order."""
    need_served(table)
    rows = []
    still = table.people
    while still:
        row = _next_row(table, prices, still)
        rows.append(row)
        still = tuple([person for person in still if person not in row[1]])
    return tuple(rows)


def quick_opening(table, prices):
    """The houses of a quick opening."""
    return tuple(sorted([house for house, _ in quick_rows(table, prices)]))


def quick_payments(table, prices):
    """Right payments: what a quick opening costs for each, over what lots of people take at most."""
    pays = {}
    for house, people in quick_rows(table, prices):
        each = fraction(price_at(table, prices, house), len(people))
        for person in people:
            pays[person] = over(each, harmonic(most_people(table)))
    return tuple([pays[person] for person in table.people])
