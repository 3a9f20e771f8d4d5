"""How the least cost of right shares changes as a price does."""

from servedall.corners import all_corners
from servedall.errors import NoName
from servedall.fractions import ZERO, compared, least_of, minus, over, plus, times
from servedall.prices import repriced, sum_of
from servedall.settling import least_shares
from servedall.shares import cost_of
from servedall.tables import need_served


def least_cost(table, prices):
    """The least cost of right shares."""
    # The payments that least shares meet sum to what these cost.
    return sum_of(least_shares(table, prices)[1])


def _least_at(lines, price):
    """The least cost at a price, and how much it rises for each 1 more from there on."""
    costs = [plus(base, times(price, slope)) for base, slope in lines]
    least = least_of(costs)
    return (least, least_of([slope for (_, slope), cost in zip(lines, costs) if cost == least]))


def _turn_behind(lines, price, cost, slope):
    """The next price at which the slope changes, or None."""
    turns = []
    for base, lesser in lines:
        if compared(lesser, slope) < 0:
            more = minus(plus(base, times(price, lesser)), cost)
            turns.append(plus(price, over(more, minus(slope, lesser))))
    return least_of(turns) if turns else None


def cost_line(table, prices, house):
    """Triples (price, cost, slope): the least cost as the price of a house alone goes from 0 on."""
    if house not in table.houses:
        raise NoName(house)
    need_served(table)
    at = table.houses.index(house)
    others = repriced(table, prices, house, 0)
    # Some corner always costs the least: so the least cost is the least of the lines of all corners.
    lines = [(cost_of(others, corner), corner[at]) for corner in all_corners(table)]
    told = []
    price = ZERO
    while price is not None:
        cost, slope = _least_at(lines, price)
        told.append((price, cost, slope))
        price = _turn_behind(lines, price, cost, slope)
    return tuple(told)
