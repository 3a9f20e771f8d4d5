"""Middles and centres: places from which all people, or the farthest ones, are near."""

from servedall.roads import branches, ways_from


def _ways_to(roads, people, place):
    ways = dict(zip(roads.places, ways_from(roads, place)))
    return [ways[other] for _, other, _ in people]


def sum_from(roads, people, place):
    """The sum of the ways from a place to all people."""
    return sum(_ways_to(roads, people, place))


def farthest_from(roads, people, place):
    """The greatest of the ways from a place to people; 0 if there are none."""
    return max(_ways_to(roads, people, place), default=0)


def _least_places(places, numbers):
    least = min(numbers)
    return tuple([place for place, number in zip(places, numbers) if number == least])


def middles(roads, people):
    """The places from which the ways to all people have the least sum."""
    return _least_places(roads.places, [sum_from(roads, people, place) for place in roads.places])


def centres(roads, people):
    """The places from which the farthest person is the nearest."""
    return _least_places(roads.places, [farthest_from(roads, people, place) for place in roads.places])


def branch_counts(roads, people, place):
    """For each branch of a place how many of the people are there."""
    counts = []
    for beside, beyond in branches(roads, place):
        counts.append((beside, len([other for _, other, _ in people if other in beyond])))
    return tuple(counts)
