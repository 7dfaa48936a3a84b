"""Fractions: pairs (top, bottom) of integers in lowest terms, the bottom at least 1."""

from lesslater.errors import BadFraction


def is_whole_number(value):
    """Return whether value is an integer."""
    # To Python a bool is an integer, too; to this package it is none.
    return isinstance(value, int) and not isinstance(value, bool)


def common_divisor(one, other):
    """Return the greatest common divisor of two integers that are not both 0."""
    while other != 0:
        one, other = other, one % other
    return abs(one)


def is_fraction(value):
    """Return whether value is a fraction."""
    if not isinstance(value, tuple) or len(value) != 2:
        return False
    top, bottom = value
    if not is_whole_number(top) or not is_whole_number(bottom):
        return False
    return bottom >= 1 and common_divisor(top, bottom) == 1


def fraction(top, bottom=1):
    """Return the fraction top / bottom."""
    if not is_whole_number(top):
        raise BadFraction(0)
    if not is_whole_number(bottom) or bottom == 0:
        raise BadFraction(1)
    divisor = common_divisor(top, bottom)
    if bottom < 0:
        divisor = -divisor
    return (top // divisor, bottom // divisor)


def is_below(one, other):
    """Return whether a fraction is less than another one."""
    return one[0] * other[1] < other[0] * one[1]


def added(one, other):
    """Return the sum of two fractions."""
    return fraction(one[0] * other[1] + other[0] * one[1], one[1] * other[1])


def middle(one, other):
    """Return the fraction that stands midway between two."""
    top, bottom = added(one, other)
    return fraction(top, 2 * bottom)


def least_of(several):
    """Return the least fraction of a list that is not empty."""
    least = several[0]
    for other in several:
        if is_below(other, least):
            least = other
    return least
