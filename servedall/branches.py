"""Trees that show that no opening costs less than a price."""

from servedall.fractions import ceiling_of, greatest_of
from servedall.lines import first_lines
from servedall.openings import first_opening, not_served, price_of
from servedall.prices import price_at, right_payments, sum_of
from servedall.settling import lines_behind, payments_told, shares_told
from servedall.tables import need_served, serves, unserved, without
from servedall.values import is_tuple_of


class Case:
    """What is left of a table with prices, and the price that is still to be reached."""

    def __init__(self, table, prices, wanted):
        self.table = table
        self.prices = prices
        self.wanted = wanted


def _opened(case, house):
    """The case in which a house is opened besides."""
    return _case_left(case, serves(case.table, house), house, price_at(case.table, case.prices, house))


def _closed(case, house):
    """The case in which a house is closed besides."""
    return _case_left(case, (), house, 0)


def _case_left(case, people, house, price):
    prices = [other for name, other in zip(case.table.houses, case.prices) if name != house]
    return Case(without(case.table, people, (house,)), tuple(prices), case.wanted - price)


def _is_enough(case, payments):
    if not right_payments(case.table, case.prices, payments):
        return False
    return ceiling_of(sum_of(payments)) >= case.wanted


def _is_tree(case, value):
    if is_tuple_of(value, 2):
        if value[0] == "enough":
            return _is_enough(case, value[1])
        return value[0] == "lost" and value[1] in unserved(case.table)
    if not is_tuple_of(value, 4) or value[0] != "house" or value[1] not in case.table.houses:
        return False
    return _is_tree(_opened(case, value[1]), value[2]) and _is_tree(_closed(case, value[1]), value[3])


def check_branches(table, prices, opening, value):
    """Whether some houses serve all people, and any value is a tree for their price."""
    if len(not_served(table, opening)) > 0:
        return False
    return _is_tree(Case(table, prices, price_of(table, prices, opening)), value)


def _lines_of(case):
    """Lines whose payments are enough for the case; if there are none, the last lines."""
    lines = first_lines(case.table, case.prices)
    while ceiling_of(lines.last[-1]) < case.wanted:
        behind = lines_behind(lines)
        if behind is None:
            return lines
        lines = behind
    return lines


def _house_between(case, lines):
    """Of the houses whose share is not whole, one with the greatest share."""
    # If all shares were whole, they would be those of an opening, and the payments were enough.
    # A share that is not whole is less than 1: so all whom this house serves have another one.
    shares = dict(zip(case.table.houses, shares_told(case.table, lines)))
    parts = [house for house in case.table.houses if shares[house][1] != 1]
    most = greatest_of([shares[house] for house in parts])
    return [house for house in parts if shares[house] == most][0]


def _tree_of(case):
    lines = _lines_of(case)
    if ceiling_of(lines.last[-1]) >= case.wanted:
        return ("enough", payments_told(case.table, lines))
    house = _house_between(case, lines)
    return ("house", house, _tree_of(_opened(case, house)), _tree_of(_closed(case, house)))


def branch_paper(table, prices):
    """Some opening of the least price, and some tree for it."""
    need_served(table)
    opening = first_opening(table, prices)
    return (opening, _tree_of(Case(table, prices, price_of(table, prices, opening))))


def leaves_of(tree):
    """How many leaves a tree has."""
    if tree[0] != "house":
        return 1
    return leaves_of(tree[2]) + leaves_of(tree[3])


def depth_of(tree):
    """How many houses lie on the longest way to a leaf of a tree."""
    if tree[0] != "house":
        return 0
    return 1 + max(depth_of(tree[2]), depth_of(tree[3]))
