"""Lines: equations over what people pay and what is left of the prices of houses."""

from servedall.errors import Refused
from servedall.fractions import ONE, ZERO, minus, over, plus, times, total_of, whole
from servedall.tables import serves
from servedall.values import kept


class Lines:
    """The names that the rows tell, the rows, and the last row, unchecked."""

    def __init__(self, basis, rows, last):
        self.basis = kept(basis)
        self.rows = kept(rows)
        self.last = kept(last)

    def __eq__(self, other):
        return (isinstance(other, Lines) and self.basis == other.basis
                and self.rows == other.rows and self.last == other.last)


def first_lines(table, prices):
    """A row for each house: what its people pay, and what is left, are its price."""
    rows = []
    for house, price in zip(table.houses, prices):
        people = serves(table, house)
        paid = [ONE if person in people else ZERO for person in table.people]
        rest = [ONE if other == house else ZERO for other in table.houses]
        rows.append((*paid, *rest, whole(price)))
    many = len(table.people)
    basis = tuple(range(many, many + len(table.houses)))
    last = [ONE for _ in table.people] + [ZERO for _ in table.houses] + [ZERO]
    return Lines(basis, tuple(rows), tuple(last))


def less_often(row, often, other):
    """A row less another one taken so often."""
    if often == ZERO:
        return tuple(row)
    return tuple([one if two == ZERO else minus(one, times(often, two)) for one, two in zip(row, other)])


def _gains_on(last, row, name):
    """The last row behind a turn: its last fraction rises where gains are taken away."""
    gain = last[name]
    return (*less_often(last[:-1], gain, row[:-1]), plus(last[-1], times(gain, row[-1])))


def turned_on(lines, at, name):
    """These lines, turned: the row at a place tells this name from now on."""
    divisor = lines.rows[at][name]
    if divisor == ZERO:
        raise Refused("zero")
    turning = tuple([one if one == ZERO else over(one, divisor) for one in lines.rows[at]])
    rows = [turning if place == at else less_often(row, row[name], turning)
            for place, row in enumerate(lines.rows)]
    basis = (*lines.basis[:at], name, *lines.basis[at + 1:])
    return Lines(basis, tuple(rows), _gains_on(lines.last, turning, name))


def values_of(lines):
    """For each name the right side of the row that tells it, else 0."""
    values = [ZERO for _ in lines.last[:-1]]
    for name, row in zip(lines.basis, lines.rows):
        values[name] = row[-1]
    return tuple(values)


def _told(row, values):
    return total_of([times(one, two) for one, two in zip(row[:-1], values)])


def hold(lines, values):
    """Whether values for all names keep all equations."""
    return all([_told(row, values) == row[-1] for row in lines.rows])


def gain_at(lines, values):
    """What the last row tells for values of all names."""
    return plus(lines.last[-1], _told(lines.last, values))
