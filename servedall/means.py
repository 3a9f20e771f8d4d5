"""Means: right shares that are nowhere below a mean of corners."""

from servedall.corners import is_corner, just_kept, solved_rows
from servedall.fractions import (ONE, ZERO, compared, is_from_zero, least_of, minus, negative, over, plus, sign_of,
                                 times, total_of)
from servedall.shares import is_shares, supplies
from servedall.tables import serves
from servedall.values import is_tuple_of


def _lowered(table, shares):
    """Right shares, nowhere above these, of which none can be lowered."""
    for at, house in enumerate(table.houses):
        people = serves(table, house)
        more = [minus(supply, ONE) for person, supply in zip(table.people, supplies(table, shares))
                if person in people]
        shares = (*shares[:at], minus(shares[at], least_of([shares[at], *more])), *shares[at + 1:])
    return shares


def _moved(shares, step, move):
    """Shares with a move added so often."""
    return tuple([plus(share, times(step, more)) for share, more in zip(shares, move)])


def _farthest(table, shares, move):
    """How often a move can be added to right shares at most, so that they stay right."""
    slacks = [*shares, *[minus(supply, ONE) for supply in supplies(table, shares)]]
    changes = [*move, *supplies(table, move)]
    return least_of([over(slack, negative(change)) for slack, change in zip(slacks, changes) if sign_of(change) < 0])


def _free_move(table, shares):
    """A move on which all bounds that shares just keep stay just kept; None at a corner."""
    rows = dict(solved_rows(just_kept(table, shares)))
    free = [place for place in range(len(shares)) if place not in rows]
    if not free:
        return None
    move = [negative(rows[at][free[0]]) if at in rows else ZERO for at in range(len(shares))]
    move[free[0]] = ONE
    return tuple(move)


def _corner_by(table, shares):
    """A corner that just keeps all bounds that shares just keep, if none of these can be lowered."""
    # On each free move some bound is met: else a share could grow on and on, though it cannot be
    # lowered, and so stands at a bound that stays just kept.
    move = _free_move(table, shares)
    while move is not None:
        shares = _moved(shares, _farthest(table, shares, move), move)
        move = _free_move(table, shares)
    return shares


def mean_paper(table, shares):
    """Some pairs (weight, corner) whose mean is nowhere above right shares."""
    shares = _lowered(table, tuple(shares))
    rest = ONE
    paper = []
    corner = _corner_by(table, shares)
    while corner != shares:
        # The shares lie between the corner and the farthest right ones beyond, which keep one bound more.
        move = tuple([minus(share, one) for share, one in zip(shares, corner)])
        step = _farthest(table, shares, move)
        shares = _moved(shares, step, move)
        part = over(step, plus(step, ONE))
        paper.append((times(rest, part), corner))
        rest = times(rest, minus(ONE, part))
        corner = _corner_by(table, shares)
    return (*paper, (rest, corner))


def _is_weighed(table, value):
    """Whether any value is a pair of a weight above 0 and a corner."""
    if not is_tuple_of(value, 2) or not is_from_zero(value[0]) or value[0] == ZERO:
        return False
    return is_shares(table, value[1]) and is_corner(table, value[1])


def check_mean(table, shares, value):
    """Whether any value is pairs (weight, corner), the weights 1 in sum, whose mean is nowhere above shares."""
    if not isinstance(value, tuple) or not all([_is_weighed(table, pair) for pair in value]):
        return False
    if total_of([weight for weight, _ in value]) != ONE:
        return False
    means = [total_of([times(weight, corner[at]) for weight, corner in value]) for at in range(len(table.houses))]
    return all([compared(mean, share) <= 0 for mean, share in zip(means, shares)])
