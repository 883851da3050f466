"""Cuttings: the four whole numbers (a, b, c, e) that tell a sheet, and the finite list of a measure's."""

from math import gcd, isqrt

from slitsheets.errors import InvalidCutting, InvalidNumber, TooMany, Unlike
from slitsheets.measures import check_measure
from slitsheets.wholes import are_wholes, is_whole

MOST_TOLD = 2000


def is_cutting(value):
    """Return whether a value is a cutting."""
    if not are_wholes(value, 4):
        return False
    a, b, c, e = value
    if b < 1 or c < 1 or c + e >= b:
        return False
    common = gcd(b, c)
    return 0 <= a < common and _are_without_divisor(a, common, e)


def check_cutting(cutting):
    """Raise InvalidCutting unless a value is a cutting."""
    if not is_cutting(cutting):
        raise InvalidCutting(cutting)


def check_two_cuttings(one, other):
    """Raise InvalidCutting unless both values are cuttings, Unlike unless they have one measure."""
    if measure_of(one) != measure_of(other):
        raise Unlike(other)


def measure_of(cutting):
    """Return the measure of a cutting."""
    check_cutting(cutting)
    _, b, c, e = cutting
    return e * e + 4 * b * c


def how_many_cuttings(measure):
    """Return how many cuttings a measure has."""
    check_measure(measure)
    return sum([_how_many_with(measure, e) for e in _lasts(measure)])


def cuttings(measure):
    """Return the list of the cuttings of a measure, in order."""
    many = how_many_cuttings(measure)
    if many > MOST_TOLD:
        raise TooMany(many)
    return all_cuttings(measure)


def all_cuttings(measure):
    """Return the list of the cuttings of a measure, in order, however many there are."""
    return sorted(_gathered(measure))


def how_many_with_last(measure, e):
    """Return how many cuttings of a measure have a told last item."""
    check_measure(measure)
    if not is_whole(e):
        raise InvalidNumber(e)
    return _how_many_with(measure, e)


def cutting_number(cutting):
    """Return the place of a cutting in the list of its measure."""
    measure = measure_of(cutting)
    return len([other for other in _gathered(measure) if other < cutting])


def cutting_numbered(measure, number):
    """Return the cutting at a place in the list of a measure."""
    check_measure(measure)
    if not is_whole(number) or number < 0:
        raise InvalidNumber(number)
    told = all_cuttings(measure)
    if number >= len(told):
        raise InvalidNumber(number)
    return told[number]


def next_cutting(cutting):
    """Return the cutting behind one in the list of its measure, None behind the last one."""
    measure = measure_of(cutting)
    return min([other for other in _gathered(measure) if other > cutting], default=None)


def _gathered(measure):
    """Return all cuttings of a measure, in no order to rely on."""
    return [
        (a, b, c, e)
        for e in _lasts(measure)
        for b, c in _middles(measure, e)
        for a in _firsts(b, c, e)
    ]


def _how_many_with(measure, e):
    return sum([len(_firsts(b, c, e)) for b, c in _middles(measure, e)])


def _lasts(measure):
    """Return all items e that may stand in a cutting, and some with which there is none."""
    root = isqrt(measure)
    return list(range(-root, root + 1))


def _middles(measure, e):
    """Return the pairs (b, c) with which there is a cutting that ends with e."""
    if e * e >= measure or (measure - e) % 2 == 1:
        return []
    both = (measure - e * e) // 4
    # With b * c given, c + e is below b just if the square of 2 * c + e is below the measure.
    greatest = (isqrt(measure - 1) - e) // 2
    return [(both // c, c) for c in range(1, greatest + 1) if both % c == 0]


def _firsts(b, c, e):
    """Return the items a that can stand ahead of b, c and e."""
    common = gcd(b, c)
    return [a for a in range(common) if _are_without_divisor(a, common, e)]


def _are_without_divisor(one, other, third):
    """Return whether no number above 1 divides all three."""
    return gcd(gcd(one, other), third) == 1
