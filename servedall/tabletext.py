"""The text of a table, and how it is read."""

from servedall.errors import InvalidText
from servedall.tables import Table, served_by
from servedall.values import among_fault, is_name, name_fault


def table_text(table):
    """A line of all houses, then a line for each person with their houses."""
    lines = [["houses", *table.houses]]
    for person in table.people:
        lines.append([person, *served_by(table, person)])
    return "\n".join([" ".join(words) for words in lines])


def _is_head(words):
    return words[0] == "houses" and name_fault(words[1:]) is None


def _is_row(words, people, houses):
    if not is_name(words[0]) or people and words[0] <= people[-1]:
        return False
    return among_fault(words[1:], houses) is None


def read_table(value):
    """The table with this text."""
    if not isinstance(value, str):
        raise InvalidText(-1)
    head, *rows = [line.split(" ") for line in value.split("\n")]
    if not _is_head(head):
        raise InvalidText(0)
    houses = head[1:]
    people = []
    pairs = []
    for at, words in enumerate(rows):
        if not _is_row(words, people, houses):
            raise InvalidText(at + 1)
        people.append(words[0])
        pairs.extend([(words[0], house) for house in words[1:]])
    return Table(tuple(people), tuple(houses), tuple(pairs))
