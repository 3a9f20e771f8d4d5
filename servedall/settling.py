"""Settling: turning lines until no name can raise the sum of the payments."""

from servedall.fractions import compared, negative, over, sign_of
from servedall.lines import first_lines, turned_on, values_of
from servedall.tables import need_served


def entering(lines):
    """The least name with a gain above 0, or None."""
    for name, gain in enumerate(lines.last[:-1]):
        if sign_of(gain) > 0:
            return name
    return None


def _bounds(lines, row, name):
    """The right side of a row and then what is left of houses, divided by the coefficient of a name."""
    # There is a row for each house: so the last names, as many as there are rows, are what is left.
    rest = row[len(row) - 1 - len(lines.rows):-1]
    return [over(one, row[name]) for one in (row[-1], *rest)]


def _is_less(bounds, others):
    for one, other in zip(bounds, others):
        if one != other:
            return compared(one, other) < 0
    return False


def leaving(lines, name):
    """The place of the row that bounds a name by the least, or None."""
    best = None
    least = []
    for at, row in enumerate(lines.rows):
        if sign_of(row[name]) > 0:
            bounds = _bounds(lines, row, name)
            if best is None or _is_less(bounds, least):
                best = at
                least = bounds
    return best


def lines_behind(lines):
    """These lines, turned on the name that enters; None if none does."""
    name = entering(lines)
    if name is None:
        return None
    return turned_on(lines, leaving(lines, name), name)


def settle_rows(table, prices):
    """All lines on the way from the first ones to those at which no name enters."""
    need_served(table)
    lines = first_lines(table, prices)
    steps = []
    while lines is not None:
        steps.append(lines)
        lines = lines_behind(lines)
    return tuple(steps)


def settle_steps(table, prices):
    """The names in the basis of each of these lines, ascending."""
    return tuple([tuple(sorted(lines.basis)) for lines in settle_rows(table, prices)])


def shares_told(table, lines):
    """For each house 0 less the gain of what is left of it."""
    return tuple([negative(gain) for gain in lines.last[len(table.people):-1]])


def payments_told(table, lines):
    """For each person their value."""
    return values_of(lines)[:len(table.people)]


def least_shares(table, prices):
    """Right shares and right payments that meet."""
    lines = settle_rows(table, prices)[-1]
    return (shares_told(table, lines), payments_told(table, lines))
