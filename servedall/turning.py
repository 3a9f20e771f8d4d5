"""Turning: deeds that bring a town from one table with prices to another one."""

from servedall.tables import served_by, without


def _house_deeds(table, prices, other, costs):
    """Deeds by which houses go, come, and have other prices."""
    before = dict(zip(table.houses, prices))
    behind = dict(zip(other.houses, costs))
    gone = [("close", house) for house in table.houses if house not in behind]
    come = [("house", house, price) for house, price in behind.items() if house not in before]
    dearer = [("price", house, price) for house, price in behind.items()
              if house in before and before[house] != price]
    return gone + come + dearer


def _stay(table, other):
    """The people of both tables whom the same houses serve, when all others of the first one are closed."""
    rest = without(table, (), [house for house in table.houses if house not in other.houses])
    return [person for person in rest.people
            if person in other.people and served_by(rest, person) == served_by(other, person)]


def turn_deeds(table, prices, other, costs):
    """Some deeds that bring a town from a table and its prices to another table and its prices."""
    # Who is served otherwise leaves and comes anew: that is never more than two deeds for each.
    stay = _stay(table, other)
    leave = [("leave", person) for person in table.people if person not in stay]
    come = [("person", person, served_by(other, person)) for person in other.people if person not in stay]
    return (*leave, *_house_deeds(table, prices, other, costs), *come)
