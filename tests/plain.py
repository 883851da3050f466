"""Cuttings, deeds and words by the document's words alone, tried one by one: slow, and for small measures."""

from itertools import product
from math import gcd, isqrt


def measures(greatest):
    return [measure for measure in range(5, greatest + 1) if measure % 4 in (0, 1)]


def searched(greatest):
    """All cuttings of all measures up to one, by trying all numbers."""
    found = {measure: [] for measure in measures(greatest)}
    side = greatest // 4
    last = isqrt(greatest)
    for b, c, e in product(range(1, side + 1), range(1, side + 1), range(-last, last + 1)):
        measure = e * e + 4 * b * c
        if measure <= greatest and c + e < b:
            for a in range(min(b, c)):
                common = gcd(b, c)
                if a < common and not [n for n in range(2, common + 1)
                                       if a % n == 0 and b % n == 0 and c % n == 0 and e % n == 0]:
                    found[measure].append((a, b, c, e))
    return {measure: sorted(told) for measure, told in found.items()}


SEARCHED = searched(160)


def plain_deeds(cutting):
    """All deeds of a cutting, by trying all numbers."""
    _, b, c, e = cutting
    found = []
    q = 1
    while b - q * e - q * q * c > 0:
        found += [(p, q) for p in range(q * c) if p < q * (c // gcd(b, c)) and gcd(p, q) == 1]
        q += 1
    return sorted(found)


def letters(cutting, deed, times=0):
    """i, j, k, l of a deed, with the first z that is found and its x, and so many times p and q more."""
    a, b, c, e = cutting
    p, q = deed
    z = [number for number in range(q) if (p * number - 1) % q == 0][0]
    x, z = (p * z - 1) // q + times * p, z + times * q
    assert p * z - q * x == 1
    return p * b + q * a, q * c, x * b + z * a + e + q * c, z * c


def plain_done(cutting, deed, times=0, more=0):
    """The cutting to which a deed leads, with other x and z, s and t according to the last two numbers."""
    _, b, c, e = cutting
    _, q = deed
    i, j, k, l = letters(cutting, deed, times)
    c1 = gcd(i, j)
    b1, rest = divmod(i * l - j * k, c1)
    assert rest == 0 and b1 == c * (b - q * e - q * q * c) // c1
    s = [number for number in range(j) if (c1 - number * i) % j == 0][0] + more * (j // c1)
    t = (c1 - s * i) // j
    assert s * i + t * j == c1
    return -(s * k + t * l) % gcd(b1, c1), b1, c1, -e - 2 * q * c


def plain_backs(cutting, deed):
    """All deeds of the cutting to which a deed leads that are as [14] tells what is back."""
    i, j, k, l = letters(cutting, deed)
    other = plain_done(cutting, deed)
    a1, _, c1, _ = other
    found = []
    for p1, q1 in plain_deeds(other):
        t, rest = divmod(c1 + p1 * i, j)
        if q1 * c1 == deed[1] * cutting[2] and rest == 0 and (-(-p1 * k + t * l) - a1) % c1 == 0:
            found.append((p1, q1))
    return found


def graph(measure):
    """For each cutting of a measure the list of its deeds, in order, with the cuttings to which they lead."""
    return {cutting: [(deed, plain_done(cutting, deed)) for deed in plain_deeds(cutting)]
            for cutting in SEARCHED[measure]}


def distances(steps, starts):
    """How far each cutting that is joined to one of several is from the nearest of them."""
    far = {cutting: 0 for cutting in starts}
    queue = list(starts)
    for cutting in queue:
        for _, other in steps[cutting]:
            if other not in far:
                far[other] = far[cutting] + 1
                queue.append(other)
    return far


def plain_words(steps, one, other, length):
    """All words of a length that lead from one cutting to another, in order."""
    if length == 0:
        return [[]] if one == other else []
    return [[deed] + rest for deed, behind in steps[one] for rest in plain_words(steps, behind, other, length - 1)]
