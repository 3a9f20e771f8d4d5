"""Corners: right shares that are not in the middle between two others."""

from itertools import combinations

from servedall.fractions import ONE, ZERO, over
from servedall.lines import less_often
from servedall.shares import is_shares, supplies
from servedall.tables import grid


def _place_of(row):
    """The first place of a row at which it is not 0, or None."""
    for at, one in enumerate(row):
        if one != ZERO:
            return at
    return None


def solved_rows(rows):
    """Rows that mean the same: pairs (place, row), each row with 1 at its place, the others with 0."""
    solved = []
    for row in rows:
        for place, by in solved:
            row = less_often(row, row[place], by)
        place = _place_of(row)
        if place is None:
            continue
        new = tuple([over(one, row[place]) for one in row])
        solved = [(at, less_often(by, by[place], new)) for at, by in solved] + [(place, new)]
    return sorted(solved)


def rank_of(rows):
    """The greatest number of rows none of which is a sum of multiples of the others."""
    return len(solved_rows(rows))


def _bounds(table):
    """All bounds of right shares as rows, the right side last: shares of 0, then supplies of 1."""
    many = range(len(table.houses))
    bounds = []
    for house in many:
        bounds.append([ONE if at == house else ZERO for at in many] + [ZERO])
    for row in grid(table):
        bounds.append([(one, 1) for one in row] + [ONE])
    return bounds


def just_kept(table, shares):
    """The rows of the bounds that right shares just keep, without their right sides."""
    sides = [*shares, *supplies(table, shares)]
    return [row[:-1] for row, side in zip(_bounds(table), sides) if side == row[-1]]


def is_corner(table, shares):
    """Whether right shares are a corner."""
    return rank_of(just_kept(table, shares)) == len(table.houses)


def _shares_at(bounds, many):
    """The only shares that just keep some bounds, for so many houses; None if there are none or more."""
    solved = solved_rows(bounds)
    if [place for place, _ in solved] != list(range(many)):
        return None
    return tuple([row[-1] for _, row in solved])


def all_corners(table):
    """All corners."""
    found = {}
    all_bounds = _bounds(table)
    for bounds in combinations(all_bounds, len(table.houses)):
        shares = _shares_at(bounds, len(table.houses))
        if is_shares(table, shares):
            found[shares] = True
    return tuple(sorted(found))
