"""The heart of a measure: its cuttings (0, b, 1, e), the deeds among them, and the way there from elsewhere."""

from math import gcd, isqrt

from slitsheets.cuttings import check_cutting, is_cutting, measure_of
from slitsheets.deeds import behind
from slitsheets.errors import InvalidCutting, InvalidNumber, TooMany
from slitsheets.measures import check_measure
from slitsheets.wholes import is_whole

MOST_STEPS = 5000
MOST_IN_LOTS = 100


def is_heart(value):
    """Return whether a value is a cutting of a heart."""
    return is_cutting(value) and value[2] == 1


def how_many_heart(measure):
    """Return how many cuttings the heart of a measure has."""
    check_measure(measure)
    return _size(measure)


def heart_numbered(measure, number):
    """Return the cutting of the heart of a measure with a number, in the order of the last items."""
    check_measure(measure)
    if not is_whole(number) or number < 0 or number >= _size(measure):
        raise InvalidNumber(number)
    return _with_last(measure, 2 * number - _size(measure))


def heart_number(cutting):
    """Return the number of a cutting of a heart."""
    _check_heart(cutting)
    return (cutting[3] + _size(measure_of(cutting))) // 2


def heart_steps(cutting):
    """Return the list of the cuttings of the heart to which a deed leads from one of it."""
    _check_heart(cutting)
    measure = measure_of(cutting)
    e = cutting[3]
    many = (_size(measure) - e) // 2
    if many > MOST_STEPS:
        raise TooMany(many)
    return [_with_last(measure, f) for f in range(-_size(measure), -e, 2) if _is_step(cutting, f)]


def heart_lots(measure):
    """Return the list of the parts into which the heart of a measure falls by the deeds within it."""
    many = how_many_heart(measure)
    if many > MOST_IN_LOTS:
        raise TooMany(many)
    parts = []
    for number in range(many):
        cutting = heart_numbered(measure, number)
        if not any([cutting in part for part in parts]):
            parts.append(_part_of(cutting))
    return parts


def heart_distance(cutting):
    """Return how many deeds at least lead from a cutting to the heart."""
    check_cutting(cutting)
    a, b, c, _ = cutting
    if c == 1:
        return 0
    return 1 if gcd(gcd(a, b), c) == 1 else 2


def word_to_heart(cutting):
    """Return a word with the fewest deeds that leads from a cutting to the heart."""
    word = []
    here = cutting
    while heart_distance(here) > 0:
        word.append(_deed_nearer(here))
        here = behind(here, word[-1])
    return word


def _check_heart(cutting):
    if not is_heart(cutting):
        raise InvalidCutting(cutting)


def _size(measure):
    """Return how many cuttings the heart of a measure has.

    The greatest number with the last rest by 2 of the measure and a square below it is just as great: the last
    items go from its opposite to the number that is less by 2.
    """
    root = isqrt(measure - 1)
    return root - (measure - root) % 2


def _with_last(measure, e):
    return (0, (measure - e * e) // 4, 1, e)


def _is_step(cutting, f):
    """Return whether a deed leads from a cutting of the heart to the one with the item f, at most -2 less its own."""
    _, b, _, e = cutting
    return gcd((e + f) // 2, b) == 1


def _part_of(cutting):
    """Return the list of the cuttings of the heart that deeds within it join to one, in the order of the last items."""
    found = [cutting]
    rim = [cutting]
    while len(rim) > 0:
        steps = heart_steps(rim.pop())
        fresh = [other for other in steps if other not in found]
        found = found + fresh
        rim = rim + fresh
    return sorted(found, key=_last)


def _last(cutting):
    return cutting[3]


def _deed_nearer(cutting):
    """Return a deed that leads nearer to the heart.

    Of the deeds (p, 1), those fail whose p has a certain rest by a prime that divides the third item and not the
    second one: some below the product of such primes does not, and few fail one behind the other.
    """
    p = 0
    while heart_distance(behind(cutting, (p, 1))) >= heart_distance(cutting):
        p += 1
    return (p, 1)
