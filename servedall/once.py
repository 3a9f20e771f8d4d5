"""Once: houses that serve each person just once, tilts that show that there are none, and dues."""

from servedall.errors import Refused
from servedall.openings import not_served, price_of
from servedall.packing import apart_lots, is_apart, packed_of
from servedall.prices import need_prices
from servedall.tables import serves, without
from servedall.ties import need_even
from servedall.values import is_int, is_tuple_of


def is_once(table, value):
    """Whether any value is an ascending tuple of houses that serve each person just once."""
    return is_apart(table, value) and len(not_served(table, value)) == 0


def all_once(table):
    """All ascending tuples of houses that serve each person just once."""
    return tuple([lot for lot in apart_lots(table) if len(not_served(table, lot)) == 0])


def are_dues(table, prices, value):
    """Whether any value is integers, one for each person, of which no house's people have more than its price."""
    need_prices(table, prices)
    if not is_tuple_of(value, len(table.people)) or not all([is_int(one) for one in value]):
        return False
    dues = dict(zip(table.people, value))
    return all([sum([dues[person] for person in serves(table, house)]) <= price
                for house, price in zip(table.houses, prices)])


def _zeros(table):
    return tuple([0 for _ in table.houses])


def check_tilt(table, value):
    """Whether any value is dues at prices of 0, with a sum above 0."""
    return are_dues(table, _zeros(table), value) and sum(value) > 0


def _lot_and_dues(table, prices, own):
    """Some houses apart and dues, for an even table: each person served is worth so much, less the prices."""
    worths = tuple([own * len(serves(table, house)) - price for house, price in zip(table.houses, prices)])
    pack = packed_of(table, worths)
    # The houses of a lot that serves all are worth as much as all people, less their prices: so what the
    # cover leaves of people are dues with the sum of these prices. Else it leaves more.
    return (pack.lot, tuple([own - whole_one for whole_one, _ in pack.cover]))


def once_or_tilt(table):
    """Some houses that serve each person just once, or a tilt, behind the word for it."""
    need_even(table)
    lot, tilt = _lot_and_dues(table, _zeros(table), 1)
    return ("once", lot) if is_once(table, lot) else ("tilt", tilt)


def check_once(table, prices, once, dues):
    """Whether any values are houses that serve each person just once, and dues with the sum of their prices."""
    need_prices(table, prices)
    if not is_once(table, once) or not are_dues(table, prices, dues):
        return False
    return price_of(table, prices, once) == sum(dues)


def least_once(table, prices):
    """Some houses that serve each person just once, and dues with the sum of their prices."""
    need_prices(table, prices)
    need_even(table)
    idle = [house for house in table.houses if len(serves(table, house)) == 0]
    costs = tuple([price for house, price in zip(table.houses, prices) if house not in idle])
    # Serving one person more counts for more than all prices together.
    once, dues = _lot_and_dues(without(table, (), idle), costs, sum(costs) + 1)
    if not is_once(table, once):
        raise Refused("tilt")
    return (once, dues)
