"""Facts: what sheets that hold tell, and what follows."""

from servedall.fines import plan_price
from servedall.fractions import whole
from servedall.openings import price_of
from servedall.prices import sum_of

# What each of these words tells of its question, under which word.
ALONE = {"even": ("odd", False), "unserved": ("served", False), "tilt": ("once", False), "lost": ("placed", False),
         "right": ("right", True), "objection": ("right", False)}


def _case_facts(word, case, paper):
    """What an opening, or shares, and payments, or a tree, tell of a table with prices."""
    table, prices = case
    facts = [("served", table, True)]
    if word != "shares":
        facts.append(("price", case, price_of(table, prices, paper[0])))
    if word != "least":
        facts.append(("sum", case, sum_of(paper[1])))
    return facts


def _ring_facts(table, ring):
    odd = [("odd", table, True)] if len(ring[0]) & 1 == 1 else []
    return [("ring", table, True), *odd]


def _straight_facts(table):
    return [("ring", table, False), ("odd", table, False)]


def _once_facts(case, paper):
    return [("once", case[0], True), ("dues", case, sum(paper[1]))]


def _number_told(word, question, paper):
    """The fact that tells the number that a paper shows."""
    if word == "plan":
        table, prices, fines = question
        return ("plan", question, plan_price(table, prices, fines, paper.opening))
    if word == "packed":
        return ("worth", question, price_of(question[0], question[1], paper.lot))
    return (word, question, sum(paper[1]) if word == "ways" else paper[0])


def facts_of(sheet):
    """The facts that a sheet that holds tells."""
    word, question, paper = sheet
    if word in ALONE:
        told, answer = ALONE[word]
        return ((told, question, answer),)
    if word in ("meet", "least", "shares"):
        return tuple(_case_facts(word, question, paper))
    if word == "placed":
        return (("placed", question, True), *_straight_facts(question[2]))
    if word == "straight":
        return tuple(_straight_facts(question))
    if word in ("ring", "odd"):
        return tuple(_ring_facts(question, paper))
    if word == "once":
        return tuple(_once_facts(question, paper))
    return (_number_told(word, question, paper),)


def _behind_case(fact, facts):
    """What follows from a price, or a sum, of a table with prices."""
    word, case, answer = fact
    table, _ = case
    more = [("served", table, True)]
    if ("odd", table, False) in facts:
        more.append(("sum", case, whole(answer)) if word == "price" else ("price", case, answer[0]))
    others = [other for told, question, other in facts if told == "sum" and question == case]
    if word == "price" and [other for other in others if other != whole(answer)]:
        more.append(("odd", table, True))
    return more


def _behind(fact, facts):
    """What follows from a fact, beside others."""
    word, question, answer = fact
    if word == "ring" and not answer:
        return [("odd", question, False)]
    if word == "odd" and answer:
        return [("ring", question, True)]
    return _behind_case(fact, facts) if word in ("price", "sum") else []


def _each_once(facts):
    found = []
    for fact in facts:
        if fact not in found:
            found.append(fact)
    return found


def all_facts(facts):
    """These facts and all that follows, none twice."""
    known = []
    found = _each_once(facts)
    while len(found) > len(known):
        known = found
        found = _each_once(known + [more for fact in known for more in _behind(fact, known)])
    return tuple(known)


def told_by(facts, word, question):
    """The answer of the fact with this word and question, among facts and what follows; None if there is none."""
    for told, asked, answer in all_facts(facts):
        if told == word and asked == question:
            return answer
    return None
