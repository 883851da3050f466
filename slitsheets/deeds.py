"""Deeds (p, q): what leads one cutting to another one of its measure; words of deeds; the mirror.

The letters i, j, k, l, s, t and those with a 1 are the ones of the document's points on deeds.
"""

from math import gcd, isqrt

from slitsheets.cuttings import check_cutting, check_two_cuttings, measure_of
from slitsheets.divisors import bezout, inverse
from slitsheets.errors import InvalidDeed, InvalidWord, TooMany
from slitsheets.wholes import are_wholes

MOST_TOLD = 2000
LONGEST_WORD = 1000


def is_deed(cutting, value):
    """Return whether a value is a deed of a cutting."""
    check_cutting(cutting)
    return _is_deed_of(cutting, value)


def how_many_deeds(cutting):
    """Return how many deeds a cutting has."""
    check_cutting(cutting)
    return _share(cutting) * sum(_totients(_greatest_q(cutting)))


def deeds(cutting):
    """Return the list of the deeds of a cutting, in order."""
    many = how_many_deeds(cutting)
    if many > MOST_TOLD:
        raise TooMany(many)
    return all_deeds(cutting)


def all_deeds(cutting):
    """Return the list of the deeds of what is known to be a cutting, in order, however many there are."""
    share = _share(cutting)
    greatest = _greatest_q(cutting)
    return sorted([(p, q) for q in range(1, greatest + 1) for p in range(q * share) if gcd(p, q) == 1])


def done(cutting, deed):
    """Return the cutting to which a deed of a cutting leads."""
    check_deed(cutting, deed)
    return behind(cutting, deed)


def behind(cutting, deed):
    """Return the cutting to which a deed leads, where both are known to be a cutting and a deed of it."""
    _, b, c, e = cutting
    _, q = deed
    i, j, k, l = _led_sides(cutting, deed)
    c1, s, t = bezout(i, j)
    b1 = c * (b - q * e - q * q * c) // c1
    return (-(s * k + t * l) % gcd(b1, c1), b1, c1, -e - 2 * q * c)


def back(cutting, deed):
    """Return the deed that leads straight back from the cutting to which a deed leads."""
    check_deed(cutting, deed)
    return _turned_back(cutting, deed)


def is_word(cutting, value):
    """Return whether a value is a word of a cutting."""
    check_cutting(cutting)
    return _way(cutting, value) is not None


def led(cutting, word):
    """Return the cutting to which a word leads."""
    return passed(cutting, word)[-1]


def passed(cutting, word):
    """Return the list of all cuttings on the way of a word, the given one first."""
    check_cutting(cutting)
    way = _way(cutting, word)
    if way is None:
        raise InvalidWord(word)
    return way


def led_back(cutting, word):
    """Return the word that leads back, deed by deed, from the cutting to which a word leads."""
    way = passed(cutting, word)
    return [_turned_back(way[at], word[at]) for at in reversed(range(len(word)))]


def deeds_to(cutting, other):
    """Return the list of the deeds that lead from a cutting to another one, in order."""
    check_two_cuttings(cutting, other)
    return [deed for deed in deeds(cutting) if behind(cutting, deed) == other]


def mirror(cutting):
    """Return the mirror of a cutting."""
    check_cutting(cutting)
    a, b, c, e = cutting
    return (-a % gcd(b, c), b, c, e)


def mirror_deed(cutting, deed):
    """Return the deed of the mirror that goes along with a deed of a cutting."""
    check_deed(cutting, deed)
    p, q = deed
    share = _share(cutting)
    return ((-p - q * _mirror_shift(cutting)) % (q * share), q)


def check_deed(cutting, deed):
    """Raise InvalidCutting unless the first value is a cutting, InvalidDeed unless the second is a deed of it."""
    check_cutting(cutting)
    if not _is_deed_of(cutting, deed):
        raise InvalidDeed(deed)


def _is_deed_of(cutting, value):
    if not are_wholes(value, 2):
        return False
    _, b, c, e = cutting
    p, q = value
    if q < 1 or b - q * e - q * q * c <= 0:
        return False
    return 0 <= p < q * _share(cutting) and gcd(p, q) == 1


def _share(cutting):
    """Return the third item without the greatest divisor that it has in common with the second one."""
    _, b, c, _ = cutting
    return c // gcd(b, c)


def _greatest_q(cutting):
    """Return the greatest q that a deed of a cutting has."""
    _, _, c, e = cutting
    # b - q * e - q * q * c is above 0 just if the square of 2 * q * c + e is below the measure.
    return (isqrt(measure_of(cutting) - 1) - e) // (2 * c)


def _totients(greatest):
    """Return the list of how many numbers from 1 to q are without a divisor in common with q, from 0 on."""
    many = list(range(greatest + 1))
    for number in range(2, greatest + 1):
        # What no lesser prime has made smaller is a prime itself.
        if many[number] == number:
            for multiple in range(number, greatest + 1, number):
                many[multiple] -= many[multiple] // number
    return many


def _led_sides(cutting, deed):
    """Return the four numbers i, j, k and l of a deed of a cutting."""
    a, b, c, e = cutting
    p, q = deed
    _, z, less_x = bezout(p, q)
    return (p * b + q * a, q * c, z * a - less_x * b + e + q * c, z * c)


def _turned_back(cutting, deed):
    """Return what is back for a deed, where both are known to be a cutting and a deed of it."""
    i, j, k, l = _led_sides(cutting, deed)
    a1, b1, c1, _ = behind(cutting, deed)
    _, s, t = bezout(i, j)
    q1 = j // c1
    common = gcd(b1, c1)
    # All other s are this one and a multiple of q1; each such step adds b1 to what has to come to a1 by c1.
    missing = (a1 + s * k + t * l) // common
    steps = missing * inverse(b1 // common, c1 // common)
    return (-(s + steps * q1) % (q1 * (c1 // common)), q1)


def _way(cutting, value):
    """Return the list of the cuttings on the way of a word of a cutting, None if a value is no such word."""
    if not isinstance(value, list) or len(value) > LONGEST_WORD:
        return None
    way = [cutting]
    for item in value:
        if not _is_deed_of(way[-1], item):
            return None
        way.append(behind(way[-1], item))
    return way


def _mirror_shift(cutting):
    """Return by how many times its q the p of a deed differs from the opposite of that of the mirror's deed."""
    a, b, c, _ = cutting
    if a == 0:
        return 0
    common = gcd(b, c)
    return inverse(b // common, c // common)
