"""Heights of seats over a root, and the order that they make."""

from servedall.roads import way


def height(roads, root, seat):
    """The way from the root to the place of a seat, less its reach."""
    _, place, reach = seat
    return way(roads, root, place) - reach


def _by_height(roads, seats, root):
    ordered = sorted(seats, key=lambda seat: (-height(roads, root, seat), seat[0]))
    return tuple([name for name, _, _ in ordered])


def road_order(roads, people, houses, root):
    """All people's names and all houses' names, the greatest heights first."""
    return (_by_height(roads, people, root), _by_height(roads, houses, root))
