"""Towns: tables with prices that change by calls, and papers that show what they cost."""

from servedall.commands import is_call
from servedall.deeds import house_gone, house_put, person_gone, person_put, price_put
from servedall.evenness import even_paper
from servedall.middle import least_meet
from servedall.openings import cheap_opening, gap
from servedall.orders import straight_order
from servedall.passes import one_pass
from servedall.settling import least_shares
from servedall.tables import Table, need_served, table_of, unserved
from servedall.ties import odd_ring


def kind_of(table):
    """A word for the rings of a table, and a paper that shows it."""
    order = straight_order(table)
    if order is not None:
        return ("ringless", order)
    ring = odd_ring(table)
    return ("even", even_paper(table)) if ring is None else ("odd", ring)


def both_of(table, prices, kind):
    """Some opening of the least price, and some right payments of the greatest sum."""
    if kind == "ringless":
        return one_pass(table, prices)
    if kind == "even":
        return least_meet(table, prices)
    return (cheap_opening(table, prices), least_shares(table, prices)[1])


def _with_flag(table, person, house, flag):
    """The table in which a house serves a person, or does not."""
    pairs = [pair for pair in table.pairs if pair != (person, house)]
    return table_of(table.people, table.houses, [*pairs, (person, house)] if flag else pairs)


def _behind(state, deed):
    """The table and prices behind a deed that can be done."""
    table, prices = state
    word, name, *things = deed
    if word == "house":
        return house_put(table, prices, name, (), things[0])
    if word == "close":
        return house_gone(table, prices, name)
    if word == "price":
        return price_put(table, prices, name, things[0])
    if word == "person":
        return person_put(table, prices, name, things[0])
    if word == "leave":
        return person_gone(table, prices, name)
    return (_with_flag(table, name, things[0], things[1]), prices)


def _hindrance(table, deed):
    """The word for why a deed cannot be done, or None."""
    word, name, *things = deed
    names = table.houses if word in ("house", "close", "price") else table.people
    if (name in names) == (word in ("house", "person")):
        return "name"
    others = []
    if word == "person":
        others = things[0]
    elif word == "serve":
        others = things[:1]
    return "house" if [house for house in others if house not in table.houses] else None


def _all_done(state, deeds):
    """The word for some deeds, all or none of which are done, and the table and prices behind them."""
    behind = state
    for deed in deeds:
        word = _hindrance(behind[0], deed)
        if word is not None:
            return (word, state)
        behind = _behind(behind, deed)
    return ("nothing" if behind == state else "done", behind)


class Town:
    """People, houses and prices that change by calls."""

    def __init__(self):
        self._now = (Table((), (), ()), ())
        # Pairs of a call and the table and prices ahead of it; of a call taken back, behind it.
        self._done = []
        self._undone = []

    def _stand_at(self, now, done, undone):
        self._now = now
        self._done = list(done)
        self._undone = list(undone)

    def table_now(self):
        """The table at this moment."""
        return self._now[0]

    def prices_now(self):
        """The prices at this moment."""
        return self._now[1]

    def unserved_now(self):
        """The people without a house."""
        return unserved(self._now[0])

    def calls(self):
        """The calls that were done and are not undone."""
        return tuple([call for call, _ in self._done])

    def depth(self):
        """How many calls can be undone, and redone."""
        return (len(self._done), len(self._undone))

    def kind_now(self):
        """The kind of the table, with its paper."""
        return kind_of(self._now[0])

    def both_now(self):
        """Some opening of the least price, and some right payments of the greatest sum."""
        table, prices = self._now
        need_served(table)
        return both_of(table, prices, kind_of(table)[0])

    def opening_now(self):
        """The first one of both."""
        return self.both_now()[0]

    def payments_now(self):
        """The second one of both."""
        return self.both_now()[1]

    def gap_now(self):
        """The price of the opening less the sum of the payments."""
        table, prices = self._now
        opening, payments = self.both_now()
        return gap(table, prices, opening, payments)

    def do(self, call):
        """Do what a call asks for, if it can be done; the word for that."""
        if not is_call(call):
            return "call"
        if call == ("undo",):
            return self._moved(self._done, self._undone)
        if call == ("redo",):
            return self._moved(self._undone, self._done)
        word, behind = _all_done(self._now, call[1] if call[0] == "batch" else (call,))
        if word == "done":
            self._done.append((call, self._now))
            self._undone = []
            self._now = behind
        return word

    def _moved(self, calls, others):
        """Take the last one of some calls back, or do it again, and put it to the others."""
        if not calls:
            return "nothing"
        call, state = calls.pop()
        others.append((call, self._now))
        self._now = state
        return "done"

    def twin(self):
        """Another town at the same place."""
        other = Town()
        other._stand_at(self._now, self._done, self._undone)
        return other
