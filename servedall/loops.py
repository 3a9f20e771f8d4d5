"""Loops: rounds of people and houses that may have short cuts, and how they are cut into rings."""

from servedall.errors import InvalidRing
from servedall.rings import round_fault
from servedall.values import is_tuple_of, number_fault


def _stands(table, person, houses, at):
    """Whether the house at a place and the one before it serve a person."""
    return (person, houses[at]) in table.pairs and (person, houses[at - 1]) in table.pairs


def _fault(table, value):
    return round_fault(table, value, 2, _stands)


def need_loop(table, value):
    """Raise an error for what is no loop."""
    at = _fault(table, value)
    if at is not None:
        raise InvalidRing(at)


def is_loop(table, value):
    """Whether any value is a loop."""
    return _fault(table, value) is None


def chords(table, loop):
    """All pairs of a person's place and that of a further house of the loop that serves them."""
    people, houses = loop
    many = len(people)
    return tuple([(i, j) for i in range(many) for j in range(many)
                  if j not in (i, (i - 1) % many) and (people[i], houses[j]) in table.pairs])


def _round(names, start, end):
    """The names from one place to another one, going round."""
    if start <= end:
        return names[start:end + 1]
    return names[start:] + names[:end + 1]


def cut(loop, chord):
    """The two loops into which a chord cuts a loop."""
    people, houses = loop
    i, j = chord
    behind = (j + 1) % len(people)
    before = (i - 1) % len(people)
    first = (_round(people, i, j), _round(houses, i, j))
    second = (_round(people, behind, i), _round(houses, behind, before) + (houses[j],))
    return (first, second)


def cutting(table, loop):
    """Some cutting of a loop."""
    all_chords = chords(table, loop)
    if len(all_chords) == 0:
        return ("whole",)
    first, second = cut(loop, all_chords[0])
    return ("cut", all_chords[0], cutting(table, first), cutting(table, second))


def _is_chord(table, loop, value):
    # Python takes True for 1: so the numbers are looked at first.
    return is_tuple_of(value, 2) and number_fault(value) is None and value in chords(table, loop)


def check_cutting(table, loop, value):
    """Whether any value is a cutting of a loop."""
    if value == ("whole",):
        return len(chords(table, loop)) == 0
    if not is_tuple_of(value, 4) or value[0] != "cut" or not _is_chord(table, loop, value[1]):
        return False
    first, second = cut(loop, value[1])
    return check_cutting(table, first, value[2]) and check_cutting(table, second, value[3])


def cut_ends(loop, value):
    """The loops at the ends of a cutting, in order."""
    if value[0] == "whole":
        return (loop,)
    first, second = cut(loop, value[1])
    return cut_ends(first, value[2]) + cut_ends(second, value[3])
