"""Exact fractions: tuples (top, bottom) in lowest terms, bottom from 1 on."""

from partproof.errors import NoNumber

ZERO = (0, 1)
ONE = (1, 1)


def is_whole(thing):
    """Whether a thing is a whole number; truths are ints for Python, but none here."""
    return isinstance(thing, int) and not isinstance(thing, bool)


def is_fraction(thing):
    """Whether a thing is a fraction."""
    if not isinstance(thing, tuple) or len(thing) != 2:
        return False
    top, bottom = thing
    if not is_whole(top) or not is_whole(bottom):
        return False
    return bottom >= 1 and common_divisor(top, bottom) == 1


def common_divisor(one, other):
    """The greatest whole number that divides both, where one of them is not 0."""
    one, other = abs(one), abs(other)
    while other != 0:
        one, other = other, one % other
    return one


def fraction(top, bottom=1):
    """The fraction of two whole numbers, in lowest terms."""
    if not is_whole(top) or not is_whole(bottom):
        raise NoNumber("a fraction is made of two whole numbers")
    if bottom == 0:
        raise NoNumber("the bottom of a fraction is not 0")
    divisor = common_divisor(top, bottom)
    # The sign goes to the top, since a bottom is from 1 on.
    if bottom < 0:
        divisor = -divisor
    return (top // divisor, bottom // divisor)


def plus(one, other):
    """The sum of two fractions."""
    # Most fractions are whole: for these no divisor need be sought.
    if one[1] == 1 and other[1] == 1:
        return (one[0] + other[0], 1)
    return fraction(one[0] * other[1] + other[0] * one[1], one[1] * other[1])


def minus(one, other):
    """One fraction less the other."""
    return fraction(one[0] * other[1] - other[0] * one[1], one[1] * other[1])


def times(one, other):
    """The product of two fractions."""
    if one[1] == 1 and other[1] == 1:
        return (one[0] * other[0], 1)
    return fraction(one[0] * other[0], one[1] * other[1])


def quotient(one, other):
    """One fraction divided by the other, which is not 0."""
    return fraction(one[0] * other[1], one[1] * other[0])


def under(one, other):
    """Whether one fraction is less than the other."""
    return one[0] * other[1] < other[0] * one[1]


def floor_of(number):
    """The greatest whole number that is not above a fraction."""
    return number[0] // number[1]


def ceiling_of(number):
    """The least whole number that is not below a fraction."""
    return -(-number[0] // number[1])
