"""A plain account of a town, and calls of all kinds for it."""

import copy

from servedall.tables import table_of


class PlainTown:
    """People with their houses, and houses with their prices."""

    def __init__(self):
        self.people, self.prices = {}, {}

    def state(self):
        return self.people, self.prices

    def table(self):
        return table_of(self.people, self.prices, [(name, house) for name, own in self.people.items() for house in own])

    def costs(self):
        return tuple(self.prices[house] for house in sorted(self.prices))

    def word_of(self, deed):
        """The word of a deed, which is done if it can be."""
        word, name, *more = deed
        there = self.prices if word in ("house", "close", "price") else self.people
        if (name in there) == (word in ("house", "person")):
            return "name"
        if word == "person" and not set(more[0]) <= set(self.prices) or word == "serve" and more[0] not in self.prices:
            return "house"
        before = copy.deepcopy(self.state())
        if word in ("house", "price"):
            self.prices[name] = more[0]
        elif word == "close":
            del self.prices[name]
            self.people = {one: own - {name} for one, own in self.people.items()}
        elif word == "person":
            self.people[name] = set(more[0])
        elif word == "leave":
            del self.people[name]
        else:
            self.people[name] = self.people[name] | {more[0]} if more[1] else self.people[name] - {more[0]}
        return "done" if self.state() != before else "nothing"


class Account:
    """A plain account of a town: whoever asks makes it anew from the calls that stand."""

    def __init__(self):
        self.done, self.undone = [], []

    def now(self):
        town = PlainTown()
        for call in self.done:
            for deed in call[1] if call[0] == "batch" else (call,):
                town.word_of(deed)
        return town

    def do(self, call):
        """The word of a call of the right form."""
        if call in (("undo",), ("redo",)):
            some, others = (self.done, self.undone) if call == ("undo",) else (self.undone, self.done)
            if not some:
                return "nothing"
            others.append(some.pop())
            return "done"
        town = self.now()
        before = copy.deepcopy(town.state())
        for deed in call[1] if call[0] == "batch" else (call,):
            word = town.word_of(deed)
            if word not in ("done", "nothing"):
                return word
        if town.state() == before:
            return "nothing"
        self.done.append(call)
        self.undone = []
        return "done"


def random_deed(dice, houses="hijkl", people="abcdef"):
    """A deed of some form, which often cannot be done."""
    some = tuple(dice.sample(houses, dice.choice((0, 1, 1, 2, 2, 3))))
    house, person, price = dice.choice(houses), dice.choice(people), dice.choice((0, 1, 2, 3, 50, 10 ** 6 - 1))
    return dice.choice((("house", house, price), ("house", house, price), ("close", house), ("price", house, price),
                        ("person", person, some), ("person", person, some), ("leave", person),
                        ("serve", person, house, True), ("serve", person, house, True), ("serve", person, house, False)))


def random_call(dice, **names):
    """A call of some form."""
    chance = dice.random()
    if chance < 0.15:
        return dice.choice((("undo",), ("undo",), ("redo",)))
    if chance < 0.35:
        return ("batch", tuple(random_deed(dice, **names) for _ in range(dice.choice((0, 1, 2, 2, 3, 4)))))
    return random_deed(dice, **names)


# What is no call, one by one.
NO_CALLS = [(), ("house",), ("house", "h"), ("house", "h", 1, 1), ("house", "H", 1), ("house", "h", -1), ("house", "h", True),
            ("house", "h", None), ("house", "h", "1"), ("house", 1, "h"), ["house", "h", 1], "house", ("close",), ("close", ""),
            ("close", "h", "i"), ("close", ("h",)), ("price", "h"), ("price", "h", -1), ("price", "h", False),
            ("person", "a"), ("person", "a", "h"), ("person", "a", ["h"]), ("person", "a", ("h", "h")),
            ("person", "a", ("h", "i", "h")), ("person", "a", ("h", "I")), ("person", "a", ("h",), ()),
            ("person", "abcdefghi", ()), ("person", "a", (True,)), ("person", None, ()), ("leave",), ("leave", "a", "a"),
            ("leave", None), ("serve", "a", "h"), ("serve", "a", "h", 1), ("serve", "a", "h", 0), ("serve", "a", "h", None),
            ("serve", "a", "h", "on"), ("serve", "a", ("h",), True), ("serve", "a", "h", True, True), ("batch",),
            ("batch", [("close", "h")]), ("batch", ("close", "h")), ("batch", (("undo",),)), ("batch", (("batch", ()),)),
            ("batch", (("close", "h"), ("close",))), ("batch", (("close", "h"), ["leave", "a"])), ("batch", (None,)),
            ("batch", (), ()), ("batch", None), ("undo", 1), ("undo", "undo"), ["undo"], "undo", ("redo", ()), ["redo"],
            ("Undo",), ("undo ",), ("all",), ("all", ()), ("open", "h"), (None,), (("house",), "h", 1)]
