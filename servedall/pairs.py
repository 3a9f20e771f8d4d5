"""Tables two by two, in which each house serves just two people."""

from servedall.errors import Refused
from servedall.openings import is_opening, least_price
from servedall.packing import greatest_worth, is_apart
from servedall.painting import painted
from servedall.rings import turned_ring
from servedall.tables import serves, turned


def need_two_by_two(table):
    """Refuse a table in which not each house serves just two people."""
    if not all([len(serves(table, house)) == 2 for house in table.houses]):
        raise Refused("pairs")


def never_together(table, value):
    """Whether any value is an ascending tuple of people of whom no house serves two."""
    return is_apart(turned(table), value)


def meet_all(table, value):
    """Whether any value is an ascending tuple of people of whom each house serves one at least."""
    return is_opening(turned(table), value)


def sides_or_ring(table):
    """Some people of whom each house serves just one, or some odd ring, behind the word for it."""
    need_two_by_two(table)
    # Turned, each house has just two that serve it: so a paint of these is a side.
    word, paper = painted(turned(table))
    return ("sides", paper) if word == "paint" else ("ring", turned_ring(paper))


def _ones(names):
    return tuple([1 for _ in names])


def four_numbers(table):
    """The most houses apart, the fewest people who meet all, the fewest houses for all, the most never together."""
    need_two_by_two(table)
    around = turned(table)
    return (greatest_worth(table, _ones(table.houses)), least_price(around, _ones(table.people)),
            least_price(table, _ones(table.houses)), greatest_worth(around, _ones(table.people)))
