"""Roads: places, and the lines between them, without a round."""

from servedall.errors import InvalidRoads
from servedall.values import ascending, is_int, is_tuple_of, kept, name_fault


class Roads:
    """Places and lines, unchecked."""

    def __init__(self, places, lines):
        self.places = kept(places)
        self.lines = kept(lines)

    def __eq__(self, other):
        return isinstance(other, Roads) and self.places == other.places and self.lines == other.lines


def _is_line(value, places):
    if not is_tuple_of(value, 3) or value[0] not in places or value[1] not in places:
        return False
    return value[0] < value[1] and is_int(value[2]) and value[2] > 0


def _lines_fault(places, lines):
    lots = {place: place for place in places}
    for at, line in enumerate(lines):
        if not _is_line(line, places) or at > 0 and line[:2] <= lines[at - 1][:2]:
            return at
        first = lots[line[0]]
        second = lots[line[1]]
        if first == second:
            return at
        lots = {place: first if lots[place] == second else lots[place] for place in places}
    # Without a round each line makes one lot of two.
    return len(lines) if len(lines) < len(places) - 1 else None


def _fault(value):
    if not isinstance(value, Roads) or not isinstance(value.places, tuple) or not isinstance(value.lines, tuple):
        return -1
    if len(value.places) == 0:
        return -1
    at = name_fault(value.places)
    if at is not None:
        return (0, at)
    at = _lines_fault(value.places, value.lines)
    if at is not None:
        return (1, at)
    return None


def need_roads(value):
    """Raise an error for what are no roads."""
    at = _fault(value)
    if at is not None:
        raise InvalidRoads(at)


def is_roads(value):
    """Whether any value is roads."""
    return _fault(value) is None


def roads_of(places, lines):
    """The roads of two sequences, in any order and also with something twice."""
    ordered = [(min(one, other), max(one, other), length) for one, other, length in lines]
    return Roads(ascending(places), ascending(ordered))


def _joined_to(roads, place):
    """Pairs of each place that a line joins to this one, and the length; the places ascend."""
    found = []
    for one, other, length in roads.lines:
        if place == one:
            found.append((other, length))
        elif place == other:
            found.append((one, length))
    return sorted(found)


def _behind(roads, place):
    """For each place, the nearer ones first, the ways from a place: (sum of lengths, places on it)."""
    ways = {place: (0, (place,))}
    ahead = [place]
    while ahead:
        further = []
        for one in ahead:
            so_far, places = ways[one]
            for other, length in _joined_to(roads, one):
                if other not in ways:
                    ways[other] = (so_far + length, (*places, other))
                    further.append(other)
        ahead = further
    return ways


def ways_from(roads, place):
    """The ways from a place to each place, in order."""
    ways = _behind(roads, place)
    return tuple([ways[other][0] for other in roads.places])


def way(roads, one, other):
    """The sum of the lengths on the way between two places."""
    return _behind(roads, one)[other][0]


def way_places(roads, one, other):
    """The places on the way from the one place to the other."""
    return _behind(roads, one)[other][1]


def meeting(roads, one, other, third):
    """The place that is on all three ways between three places."""
    first = way_places(roads, one, third)
    second = way_places(roads, other, third)
    return [place for place in way_places(roads, one, other) if place in first and place in second][0]


def branches(roads, place):
    """For each place joined to this one, the places to which one comes over it."""
    ways = _behind(roads, place)
    found = []
    for beside, _ in _joined_to(roads, place):
        found.append((beside, tuple([other for other in roads.places if beside in ways[other][1]])))
    return tuple(found)
