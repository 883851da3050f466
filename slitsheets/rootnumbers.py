"""Root numbers: a whole number and a multiple of the root of a measure, divided by a whole number."""

from math import gcd, isqrt

from slitsheets.errors import InvalidNumber, InvalidRoot
from slitsheets.measures import check_measure
from slitsheets.wholes import are_wholes, is_whole


def is_root(measure, value):
    """Return whether a value is a root number of a measure."""
    check_measure(measure)
    return _is_root_of(measure, value)


def root_number(measure, x, y, below):
    """Return the root number that stands for the sum of x and y times the root, divided by below."""
    check_measure(measure)
    for number in (x, y, below):
        if not is_whole(number):
            raise InvalidNumber(number)
    if below == 0:
        raise InvalidNumber(below)
    return _reduced(measure, x, y, below)


def root_plus(measure, one, other):
    """Return the sum of two root numbers."""
    _check(measure, (one, other))
    return _total(measure, one, other, 1)


def root_less(measure, one, other):
    """Return the first of two root numbers less the second one."""
    _check(measure, (one, other))
    return _total(measure, one, other, -1)


def root_times(measure, one, other):
    """Return the product of two root numbers."""
    _check(measure, (one, other))
    return _multiplied(measure, one, other)


def root_over(measure, one, other):
    """Return the quotient of two root numbers, the second of which does not stand for 0."""
    _check(measure, (one, other))
    x, y, below = other
    if x == 0 and y == 0:
        raise InvalidRoot(other)
    # It is not 0: where the root is whole, y is 0, and otherwise the measure is no square.
    norm = x * x - measure * y * y
    return _multiplied(measure, one, _reduced(measure, below * x, -below * y, norm))


def root_side(measure, root):
    """Return -1, 0 or 1: whether a root number is below 0, stands for 0 or is above 0."""
    _check(measure, (root,))
    x, y, _ = root
    # The part with the greater square decides; both squares are equal only where both parts are 0.
    if x * x > measure * y * y:
        return _side(x)
    return _side(y)


def root_floor(measure, root):
    """Return the greatest whole number that is at most a root number."""
    _check(measure, (root,))
    x, y, below = root
    # Taking the floor of the multiple first changes nothing, as everything else is whole.
    return (x + _floor_of_multiple(measure, y)) // below


def _check(measure, roots):
    check_measure(measure)
    for root in roots:
        if not _is_root_of(measure, root):
            raise InvalidRoot(root)


def _is_root_of(measure, value):
    if not are_wholes(value, 3):
        return False
    x, y, below = value
    if below < 1 or gcd(gcd(x, y), below) > 1:
        return False
    return y == 0 or not _has_whole_root(measure)


def _has_whole_root(measure):
    root = isqrt(measure)
    return root * root == measure


def _reduced(measure, x, y, below):
    """Return the root number in least terms, with a divisor above 0; a whole root is counted in."""
    if _has_whole_root(measure):
        x += y * isqrt(measure)
        y = 0
    common = gcd(gcd(x, y), below)
    if below < 0:
        common = -common
    return (x // common, y // common, below // common)


def _total(measure, one, other, times):
    """Return the sum of a root number and so many times another one."""
    x, y, below = one
    other_x, other_y, other_below = other
    sum_x = x * other_below + times * other_x * below
    sum_y = y * other_below + times * other_y * below
    return _reduced(measure, sum_x, sum_y, below * other_below)


def _multiplied(measure, one, other):
    x, y, below = one
    other_x, other_y, other_below = other
    product_x = x * other_x + measure * y * other_y
    product_y = x * other_y + y * other_x
    return _reduced(measure, product_x, product_y, below * other_below)


def _side(number):
    if number == 0:
        return 0
    return 1 if number > 0 else -1


def _floor_of_multiple(measure, times):
    """Return the greatest whole number that is at most so many times the root."""
    square = measure * times * times
    if times >= 0:
        return isqrt(square)
    # The least whole number that is not below the root of the square, with its sign changed.
    return -isqrt(square - 1) - 1
