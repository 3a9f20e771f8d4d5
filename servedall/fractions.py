"""Fractions: tuples (top, bottom) in lowest terms, the bottom above 0."""

from math import gcd

from servedall.errors import InvalidFraction, InvalidSize, InvalidText
from servedall.values import is_int, is_tuple_of

ZERO = (0, 1)
ONE = (1, 1)


def _fault(value):
    if not is_tuple_of(value, 2) or not is_int(value[0]) or not is_int(value[1]):
        return -1
    if value[1] <= 0:
        return 1
    if gcd(value[0], value[1]) > 1:
        return 0
    return None


def need_fraction(value):
    """Raise an error for what is no fraction."""
    at = _fault(value)
    if at is not None:
        raise InvalidFraction(at)


def is_fraction(value):
    """Whether any value is a fraction."""
    return _fault(value) is None


def is_from_zero(value):
    """Whether any value is a fraction that is not below 0."""
    return is_fraction(value) and value[0] >= 0


def fraction(top, bottom):
    """The quotient of two integers."""
    if bottom == 0:
        raise InvalidSize("bottom")
    divisor = gcd(top, bottom)
    if bottom < 0:
        divisor = -divisor
    return (top // divisor, bottom // divisor)


def whole(number):
    """The quotient of an integer and 1."""
    return (number, 1)


def plus(one, other):
    """The sum."""
    return fraction(one[0] * other[1] + other[0] * one[1], one[1] * other[1])


def minus(one, other):
    """The difference."""
    return fraction(one[0] * other[1] - other[0] * one[1], one[1] * other[1])


def times(one, other):
    """The product."""
    return fraction(one[0] * other[0], one[1] * other[1])


def over(one, other):
    """The quotient."""
    return fraction(one[0] * other[1], one[1] * other[0])


def negative(one):
    """0 less a fraction."""
    return (-one[0], one[1])


def sign_of(one):
    """1, -1 or 0: above, below or equal to 0."""
    return (one[0] > 0) - (one[0] < 0)


def compared(one, other):
    """1, -1 or 0: the first is greater, lesser or equal."""
    first = one[0] * other[1]
    second = other[0] * one[1]
    return (first > second) - (first < second)


def floor_of(one):
    """The greatest integer that is not above."""
    return one[0] // one[1]


def ceiling_of(one):
    """The least integer that is not below."""
    return -(-one[0] // one[1])


def total_of(some):
    """The sum of a sequence of fractions."""
    total = ZERO
    for one in some:
        total = plus(total, one)
    return total


def _foremost(some, sign):
    if len(some) == 0:
        raise InvalidSize("some")
    best = some[0]
    for one in some:
        if compared(one, best) == sign:
            best = one
    return best


def least_of(some):
    """The least of a sequence of fractions."""
    return _foremost(some, -1)


def greatest_of(some):
    """The greatest of a sequence of fractions."""
    return _foremost(some, 1)


def fraction_text(one):
    """The top in figures and, behind a stroke, the bottom, if it is not 1."""
    if one[1] == 1:
        return f"{one[0]}"
    return f"{one[0]}/{one[1]}"


def _integer_of(text):
    figures = text[1:] if text.startswith("-") else text
    if figures.isascii() and figures.isdigit():
        return int(text)
    return None


def read_fraction(value):
    """The fraction with this text."""
    if not isinstance(value, str):
        raise InvalidText(-1)
    top, stroke, bottom = value.partition("/")
    one = (_integer_of(top), _integer_of(bottom) if stroke else 1)
    # Writing it again shows whatever int() lets pass: zeros ahead, a -0, a bottom of 1.
    if not is_fraction(one) or fraction_text(one) != value:
        raise InvalidText(0)
    return one
