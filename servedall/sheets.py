"""Sheets: words, questions and papers that show what they say."""

from servedall.branches import check_branches
from servedall.evenness import check_even
from servedall.fines import check_plan, is_fines
from servedall.groups import check_objection
from servedall.once import check_once, check_tilt
from servedall.openings import check_meet, is_opening
from servedall.packing import check_packed
from servedall.passes import is_straight_paper
from servedall.placing import check_placing
from servedall.prices import are_pays, is_prices, right_payments
from servedall.rings import is_odd_ring, is_ring
from servedall.roads import is_roads
from servedall.seats import is_seats
from servedall.shares import do_meet, is_shares
from servedall.spread import check_spread
from servedall.tables import is_table, unserved
from servedall.values import is_int, is_tuple_of, number_fault, unlike_fault
from servedall.ways import check_ways, is_trips


def _is_case(value):
    return is_tuple_of(value, 2) and is_table(value[0]) and is_prices(value[0], value[1])


def _are_meeting_shares(table, prices, shares, payments):
    if not is_shares(table, shares) or not right_payments(table, prices, payments):
        return False
    return do_meet(table, prices, shares, payments)


def _holds_of_case(word, case, paper):
    """Whether a paper of two things, or what is packed, holds of a table with prices."""
    if not _is_case(case):
        return False
    table, prices = case
    if word == "packed":
        return check_packed(table, prices, paper)
    if not is_tuple_of(paper, 2):
        return False
    if word == "meet":
        return check_meet(table, prices, paper[0], paper[1])
    if word == "once":
        return check_once(table, prices, paper[0], paper[1])
    if word == "shares":
        return _are_meeting_shares(table, prices, paper[0], paper[1])
    return is_opening(table, paper[0]) and check_branches(table, prices, paper[0], paper[1])


def _holds_of_pays(word, question, paper):
    """Whether a paper holds of a table with prices, and what people pay, or fines."""
    if not is_tuple_of(question, 3) or not _is_case(question[:2]):
        return False
    table, prices, given = question
    if word == "plan":
        return is_fines(table, given) and check_plan(table, prices, given, paper)
    if not are_pays(table, given):
        return False
    if word == "right":
        return paper is None and right_payments(table, prices, given)
    return check_objection(table, prices, given, paper)


def _holds_of_table(word, table, paper):
    """Whether a paper holds of a table alone."""
    if not is_table(table):
        return False
    if word == "unserved":
        return paper in unserved(table)
    if word == "straight":
        return is_straight_paper(table, paper)
    if word == "ring":
        return is_ring(table, paper)
    if word == "odd":
        return is_odd_ring(table, paper)
    return check_even(table, paper) if word == "even" else check_tilt(table, paper)


def _holds_of_trips(_, question, paper):
    """Whether a paper holds of trips with prices."""
    if not is_tuple_of(question, 2) or not is_trips(question[0]) or not is_tuple_of(question[1], len(question[0][0])):
        return False
    return number_fault(question[1]) is None and check_ways(question[0], question[1], paper)


def _are_seated(roads, people):
    return is_roads(roads) and is_seats(roads, people)


def _holds_of_seats(word, question, paper):
    """Whether a paper holds of seats of people and a table of them."""
    if not is_tuple_of(question, 3) or not _are_seated(question[0], question[1]) or not is_table(question[2]):
        return False
    roads, people, table = question
    if table.people != tuple([name for name, _, _ in people]):
        return False
    if word == "placed":
        return check_placing(roads, people, table, ("placed", paper))
    return is_tuple_of(paper, 2) and check_placing(roads, people, table, ("lost", paper[0], paper[1]))


def _are_spots(roads, value):
    return isinstance(value, tuple) and len(value) > 0 and unlike_fault(value, roads.places) is None


def _holds_of_reach(_, question, paper):
    """Whether a paper holds of seats of people, spots, and how many of these there may be."""
    if not is_tuple_of(question, 4) or not _are_seated(question[0], question[1]):
        return False
    roads, people, spots, many = question
    if not _are_spots(roads, spots) or not is_int(many) or many < 1:
        return False
    return check_spread(roads, people, spots, many, paper)


CHECKS = {"meet": _holds_of_case, "once": _holds_of_case, "least": _holds_of_case, "shares": _holds_of_case,
          "packed": _holds_of_case, "right": _holds_of_pays, "objection": _holds_of_pays, "plan": _holds_of_pays,
          "unserved": _holds_of_table, "straight": _holds_of_table, "ring": _holds_of_table, "odd": _holds_of_table,
          "even": _holds_of_table, "tilt": _holds_of_table, "ways": _holds_of_trips, "placed": _holds_of_seats,
          "lost": _holds_of_seats, "reach": _holds_of_reach}


def sheet_holds(value):
    """Whether any value is a sheet that holds."""
    if not is_tuple_of(value, 3) or not isinstance(value[0], str) or value[0] not in CHECKS:
        return False
    check = CHECKS[value[0]]
    return check(value[0], value[1], value[2])
