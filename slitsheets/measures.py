"""Measures: whole numbers of at least 5 with the rest 0 or 1 by 4."""

from math import isqrt

from slitsheets.errors import InvalidMeasure
from slitsheets.wholes import is_whole


def is_measure(value):
    """Return whether a value is a measure."""
    return is_whole(value) and value >= 5 and value % 4 < 2


def check_measure(measure):
    """Raise InvalidMeasure unless a value is a measure."""
    if not is_measure(measure):
        raise InvalidMeasure(measure)


def whole_root(measure):
    """Return the greatest count whose square is at most a measure."""
    check_measure(measure)
    return isqrt(measure)


def factor(measure):
    """Return the greatest number by whose square a measure can be divided with the rest 0 or 1 by 4."""
    check_measure(measure)
    greatest = _greatest_square_root(measure)
    # The squares of odd numbers leave 1 by 4: only a measure that 4 divides comes to a rest of 2 or 3,
    # and then half of the number leaves a quotient that 4 divides.
    if measure // (greatest * greatest) % 4 > 1:
        return greatest // 2
    return greatest


def _greatest_square_root(number):
    """Return the greatest whole number whose square divides a number above 0."""
    found = 1
    rest = number
    divisor = 2
    while divisor * divisor * divisor <= rest:
        while rest % (divisor * divisor) == 0:
            rest //= divisor * divisor
            found *= divisor
        if rest % divisor == 0:
            rest //= divisor
        divisor += 1
    # What is left has at most two prime divisors: it is a square, or no square but 1 divides it.
    root = isqrt(rest)
    if root * root == rest:
        return found * root
    return found
