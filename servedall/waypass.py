"""Ways by one pass: least all-in prices and greatest way payments, where the table of the trips has no ring."""

from servedall.passes import one_pass
from servedall.roads import way
from servedall.wayrows import back_opening, back_payments, way_table


def best_ways(trips, prices):
    """Some opening and right way payments whose sum is its all-in price."""
    table, costs = way_table(trips, prices)
    opening, payments = one_pass(table, costs)
    return (back_opening(trips, opening), back_payments(trips, payments))


def trips_on(roads, people, weights, houses):
    """The trips of each person to each house: the weight times the way between their places."""
    return tuple([tuple([weight * way(roads, person, house) for house in houses])
                  for person, weight in zip(people, weights)])


def best_on(roads, people, weights, houses, prices):
    """Some opening and right way payments whose sum is its all-in price, for trips on roads."""
    return best_ways(trips_on(roads, people, weights, houses), prices)
