"""Towns on roads: places, people and houses that come and go, and sheets that stay right."""

from servedall.errors import InvalidRoads
from servedall.heights import road_order
from servedall.passes import pass_by
from servedall.roads import Roads, roads_of
from servedall.seats import road_table
from servedall.tables import is_servable
from servedall.town import Town
from servedall.turning import turn_deeds
from servedall.values import are_of_kinds, is_name, is_worded

# What stands behind the word of each call.
FORMS = {"place": ("name", "name", "length"), "gone": ("name",), "length": ("name", "name", "length"),
         "person": ("name", "name", "number"), "house": ("name", "name", "number", "number"), "leave": ("name",),
         "close": ("name",), "price": ("name", "number"), "move": ("side", "name", "name"),
         "reach": ("side", "name", "number")}


def _is_call(value):
    return is_worded(value) and value[0] in FORMS and are_of_kinds(value[1:], FORMS[value[0]])


def _ends(one, other):
    """The two ends of a line, as a line has them."""
    return (min(one, other), max(one, other))


def _lines_at(roads, place):
    return [line for line in roads.lines if place in line[:2]]


def _hindrance(roads, held, call):
    """The word for why roads cannot be changed by a call, some places being held by seats; or None."""
    word, name = call[:2]
    if word == "place":
        if name in roads.places:
            return "name"
        return None if call[2] in roads.places else "place"
    if word == "gone":
        if name not in roads.places:
            return "name"
        return "held" if name in held or len(_lines_at(roads, name)) != 1 else None
    joined = [line[:2] for line in roads.lines]
    return None if _ends(name, call[2]) in joined else "line"


def _roads_behind(roads, call):
    """The roads behind a call that can be done."""
    word, name, *things = call
    if word == "place":
        return roads_of([*roads.places, name], [*roads.lines, (name, *things)])
    if word == "gone":
        lines = _lines_at(roads, name)
        return Roads(tuple([place for place in roads.places if place != name]),
                     tuple([line for line in roads.lines if line not in lines]))
    ends = _ends(name, things[0])
    return Roads(roads.places, tuple([(*ends, things[1]) if line[:2] == ends else line for line in roads.lines]))


def _side_and_name(call):
    """The side of a call that changes a seat, and the name in the seat."""
    if call[0] in ("move", "reach"):
        return call[1:3]
    return ("person" if call[0] in ("person", "leave") else "house", call[1])


def _place_of(call):
    """The place to which a call brings somebody, in a tuple; an empty one if it brings nobody anywhere."""
    if call[0] in ("person", "house"):
        return call[2:3]
    return call[3:] if call[0] == "move" else ()


def _seat_behind(call, seat):
    """The place, the reach and, of a house, the price behind a call; None if there is no seat any more."""
    word = call[0]
    if word in ("person", "house"):
        return call[2:]
    if word == "price":
        return (*seat[:2], call[2])
    if word == "move":
        return (call[3], *seat[1:])
    if word == "reach":
        return (seat[0], call[3], *seat[2:])
    return None


class RoadTown:
    """Roads, people and houses on them, and prices, that change by calls."""

    def __init__(self, place):
        if not is_name(place):
            raise InvalidRoads((0, 0))
        self._roads = Roads((place,), ())
        # By names, what stands behind the name in a seat; of houses the price, too.
        self._people = {}
        self._houses = {}

    def roads_now(self):
        """The roads at this moment."""
        return self._roads

    def people_now(self):
        """The seats of all people."""
        return tuple([(name, *self._people[name]) for name in sorted(self._people)])

    def houses_now(self):
        """The seats of all houses."""
        return tuple([(name, *self._houses[name][:2]) for name in sorted(self._houses)])

    def prices_now(self):
        """The prices of all houses."""
        return tuple([self._houses[name][2] for name in sorted(self._houses)])

    def table_now(self):
        """The table of these seats."""
        return road_table(self._roads, self.people_now(), self.houses_now())

    def town_now(self):
        """A new town with this table and these prices."""
        town = Town()
        for deed in turn_deeds(town.table_now(), town.prices_now(), self.table_now(), self.prices_now()):
            town.do(deed)
        return town

    def order_now(self):
        """The order of heights over the first place."""
        return road_order(self._roads, self.people_now(), self.houses_now(), self._roads.places[0])

    def both_now(self):
        """An opening and right payments of one sum, by one pass."""
        return pass_by(self.table_now(), self.prices_now(), self.order_now())

    def sheets_now(self):
        """The sheets that the seats make the table, that its order is straight, and that both meet."""
        table = self.table_now()
        sheets = (("placed", (self._roads, self.people_now(), table), self.houses_now()),
                  ("straight", table, self.order_now()))
        if not is_servable(table):
            return sheets
        return (*sheets, ("meet", (table, self.prices_now()), self.both_now()))

    def do(self, call):
        """Do what a call asks for, if it can be done; the word for that."""
        if not _is_call(call):
            return "call"
        if call[0] in ("place", "gone", "length"):
            return self._do_roads(call)
        side, name = _side_and_name(call)
        return self._do_seat(self._people if side == "person" else self._houses, name, call)

    def _do_roads(self, call):
        held = [place for _, place, _ in self.people_now() + self.houses_now()]
        word = _hindrance(self._roads, held, call)
        if word is not None:
            return word
        behind = _roads_behind(self._roads, call)
        if behind == self._roads:
            return "nothing"
        self._roads = behind
        return "done"

    def _do_seat(self, seats, name, call):
        if (name in seats) == (call[0] in ("person", "house")):
            return "name"
        if not all([place in self._roads.places for place in _place_of(call)]):
            return "place"
        seat = _seat_behind(call, seats.get(name))
        if seat is None:
            del seats[name]
        elif seat == seats.get(name):
            return "nothing"
        else:
            seats[name] = seat
        return "done"
