"""What several tests use: tables of all kinds, and values of all kinds."""

import copy
import itertools
import random
from fractions import Fraction

from servedall.desk import Desk
from servedall.errors import InvalidFraction, InvalidText, NoName, ServeError
from servedall.fines import Plan
from servedall.kept import Kept
from servedall.lines import Lines
from servedall.middle import Meets
from servedall.packing import Packed
from servedall.parting import Parts
from servedall.roads import Roads, roads_of
from servedall.roadtown import RoadTown
from servedall.tables import Table, table_of
from servedall.town import Town

DEEP = ()
for _ in range(30):
    DEEP = (DEEP,)

# Of each kind of value that "any value" means at least one.
ANY = [None, True, False, 0, 1, -1, 10 ** 4000 - 1, -10 ** 59, "", "a", "abcdefgh", "abcdefghi", "A", "a b", "1/2",
       "\u00e9", "\u0661", "\n", (), [], (1,), (1, 2), (2, 4), (1, 0), (1, -1), (True, 1), (1, True), [1, 2], ("a",),
       ["a"], ("a", "b"), (("a", "b"), ("x", "y")), ((), ()), ((), (), ()), ((1, 2), (1, 2)), (None, None),
       Table((), (), ()), Table(1, None, "x"), Table([], [], []), Table(("a",), ("x",), (("a", "x"),)),
       Roads(("a",), ()), Roads([], []), Lines((), (), ((0, 1),)), InvalidFraction(0), NoName("a"), InvalidText([]),
       Meets((), ()), Meets([1], None), Parts((), (), (), ()), Parts((("a",), ("x",)), ("a",), ("x",), (1,)),
       (Table((), (), ()), [Roads((), ()), (None, [True])]), DEEP, ("enough", ()), ("lost", "a"),
       ("house", "x", ("enough", ()), ("enough", ())), [("a", "x")], (("a", "x"),), (("a", "b", 1),),
       Plan((), (), ()), Plan([1], None, "x"), Packed((), ()), Packed(None, [(1, 2)]), Town(), Desk(), RoadTown("a"),
       Kept(Table((), (), ()), ()), "undo now", ("undo",), ("batch", ()), ["undo"], ("meet", (Table((), (), ()), ()), None)]

PEOPLE = "abcdefghijklmnop"
HOUSES = "klmnopqrstuvwxyz"


def raised(call, *args, **named):
    """The class of the error that a call raises, and what it keeps; None and the result if it raises none."""
    try:
        result = call(*args, **named)
    except (ServeError, NoName) as error:
        return type(error), (vars(error) or {None: None}).popitem()[1]
    return None, result


def tables_of_size(many, houses):
    """All tables of so many people and houses."""
    names, others = tuple(PEOPLE[:many]), tuple(HOUSES[-houses:]) if houses else ()
    pairs = list(itertools.product(names, others))
    for bits in itertools.product((0, 1), repeat=len(pairs)):
        yield Table(names, others, tuple(pair for pair, bit in zip(pairs, bits) if bit))


def random_table(dice, many, houses, density, servable=False):
    """A table of so many people and houses, perhaps with a house at least for each person."""
    # People and houses may have the same names.
    names, others = PEOPLE[:many], dice.choice((HOUSES[-houses:] if houses else "", PEOPLE[:houses]))
    pairs = [pair for pair in itertools.product(names, others) if dice.random() < density]
    if servable and houses:
        pairs += [(name, dice.choice(others)) for name in names]
    return table_of(tuple(names), tuple(others), pairs)


def some_tables(seed, number, most=5, servable=False):
    """Random tables, the same for one seed."""
    dice = random.Random(seed)
    for _ in range(number):
        houses = dice.randint(1 if servable else 0, most)
        yield random_table(dice, dice.randint(0, most), houses, dice.choice((0.2, 0.4, 0.6, 0.9)), servable)


def random_prices(dice, table):
    """Prices with 0, alike ones and great ones among them."""
    most = dice.choice((0, 1, 2, 5, 10 ** 6))
    return tuple(dice.randint(0, most) for _ in table.houses)


def random_fractions(dice, many):
    """So many fractions from 0 on."""
    some = [Fraction(dice.randint(0, 6), dice.randint(1, 6)) for _ in range(many)]
    return tuple((one.numerator, one.denominator) for one in some)


def right_shares(dice, table, shares):
    """Right shares: where a person's houses have less than 1, one of them gets what is lacking."""
    shares = list(shares)
    for person in table.people:
        own = [at for at, house in enumerate(table.houses) if (person, house) in table.pairs]
        lack = 1 - sum(shares[at] for at in own)
        if lack > 0:
            shares[dice.choice(own)] += lack
    return tuple(map(pair_of, shares))


def value_of(one):
    """A fraction of the package as one of Python's own."""
    return Fraction(one[0], one[1])


def pair_of(one):
    """One of Python's own fractions as a fraction of the package."""
    one = Fraction(one)
    return (one.numerator, one.denominator)


def subsets(things):
    """All ascending tuples of some things."""
    for many in range(len(things) + 1):
        yield from itertools.combinations(tuple(things), many)


def price_by_hand(table, prices, houses):
    """The price of some houses, each counted once."""
    return sum(price for house, price in zip(table.houses, prices) if house in houses)


def serves_all(table, houses, people):
    """Whether some houses serve some people."""
    return all(any((person, house) in table.pairs for house in houses) for person in people)


def openings_by_hand(table):
    """All openings of a table."""
    return [houses for houses in subsets(table.houses) if serves_all(table, houses, table.people)]


def least_by_hand(table, prices, people):
    """The least price of houses that serve some people."""
    return min([price_by_hand(table, prices, houses) for houses in subsets(table.houses)
                if serves_all(table, houses, people)], default=None)


def rings_by_hand(table):
    """All rings of a table, in all forms."""
    found = []
    for many in range(3, min(len(table.people), len(table.houses)) + 1):
        for houses in itertools.permutations(table.houses, many):
            by = {p: {h for h in houses if (p, h) in table.pairs} for p in table.people}
            places = [[p for p in by if by[p] == {houses[at], houses[at - 1]}] for at in range(many)]
            found += [(people, houses) for people in itertools.product(*places)]
    return found


def ringless_tables(seed, number, most=7):
    """Tables of neighbours on a line, where there are no rings; each person has a house."""
    dice = random.Random(seed)
    for _ in range(number):
        houses = HOUSES[-dice.randint(1, most):]
        pairs = []
        for name in PEOPLE[:dice.randint(0, most)]:
            first = dice.randrange(len(houses))
            pairs += [(name, house) for house in houses[first:first + dice.randint(1, 4)]]
        yield table_of([name for name, _ in pairs], houses, pairs)


def even_tables(seed, number, most=7):
    """Tables in which a person has a house or two, on two sides: where there are even rings alone."""
    dice = random.Random(seed)
    for _ in range(number):
        houses = HOUSES[-dice.randint(2, most):]
        half = dice.randint(1, len(houses) - 1)
        pairs = [pair for name in PEOPLE[:dice.randint(0, most)]
                 for pair in ((name, dice.choice(houses[:half])), (name, dice.choice(houses[half:])))
                 if dice.random() < 0.95]
        yield table_of([name for name, _ in pairs], houses, pairs)


def is_plain(value):
    """Whether a value has tuples alone where it has sequences, also within."""
    if isinstance(value, tuple):
        return all(is_plain(thing) for thing in value)
    if isinstance(value, Table):
        return is_plain((value.people, value.houses, value.pairs))
    if isinstance(value, Roads):
        return is_plain((value.places, value.lines))
    if isinstance(value, Lines):
        return is_plain((value.basis, value.rows, value.last))
    if isinstance(value, Meets):
        return is_plain((value.opening, value.payments))
    if isinstance(value, Parts):
        return is_plain((value.ring, value.people, value.houses, value.prices))
    if isinstance(value, Plan):
        return is_plain((value.opening, value.unserved, value.payments))
    if isinstance(value, Packed):
        return is_plain((value.lot, value.cover))
    return isinstance(value, (int, str, type(None)))


def check_call(test, call, **named):
    """A call's result; its arguments stay, it is the same by position and with lists for tuples of names."""
    before = copy.deepcopy(named)
    result = call(**named)
    test.assertEqual(result, call(*named.values()))
    test.assertTrue(is_plain(result), result)
    for name, value in named.items():
        test.assertEqual(value, before[name])
    return result


def random_roads(dice, many, most=5):
    """Roads of so many places, in which each place but the first is joined to some other one."""
    places = dice.sample([a + b for a in "abcd" for b in "efgh"], many)
    lines = [(places[at], places[dice.randrange(at)], dice.randint(1, most)) for at in range(1, many)]
    return roads_of(places, lines)


def random_seats(dice, roads, names, most=6):
    """A seat on the roads for each name."""
    return tuple((name, dice.choice(roads.places), dice.randint(0, most)) for name in names)
