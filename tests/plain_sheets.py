"""Numbers with a root by fractions, and sheets, points and flights by the document's words alone, edge by edge."""

from fractions import Fraction
from math import gcd, isqrt, lcm


class Surd:
    """x and y times the root of a measure, divided by a number above 0; x and y are any fractions at first."""

    def __init__(self, measure, x, y=0, below=1):
        if isinstance(x, Fraction) or isinstance(y, Fraction):
            x, y = Fraction(x), Fraction(y)
            below = lcm(x.denominator, y.denominator)
            x, y = int(x * below), int(y * below)
        root = isqrt(measure)
        if y != 0 and root * root == measure:
            x, y = x + y * root, 0
        common = gcd(x, y, below)
        self.measure = measure
        self.x, self.y, self.below = x // common, y // common, below // common

    def told(self):
        return self.x, self.y, self.below

    def side(self):
        if self.x >= 0 and self.y >= 0:
            return 1 if self.x > 0 or self.y > 0 else 0
        if self.x <= 0 and self.y <= 0:
            return -1
        return 1 if (self.x ** 2 > self.y ** 2 * self.measure) == (self.x > 0) else -1

    def floor(self):
        square = isqrt(self.y ** 2 * self.measure)
        guess = (self.x + (square if self.y >= 0 else -square - 1)) // self.below
        return guess + 1 if Surd(self.measure, guess + 1) <= self else guess

    def _other(self, other):
        if isinstance(other, Surd):
            return other
        return Surd(self.measure, other)

    def __add__(self, other):
        other = self._other(other)
        return Surd(self.measure, self.x * other.below + other.x * self.below,
                    self.y * other.below + other.y * self.below, self.below * other.below)

    def __neg__(self):
        return Surd(self.measure, -self.x, -self.y, self.below)

    def __sub__(self, other):
        return self + -self._other(other)

    def __mul__(self, other):
        other = self._other(other)
        return Surd(self.measure, self.x * other.x + self.measure * self.y * other.y,
                    self.x * other.y + self.y * other.x, self.below * other.below)

    def __truediv__(self, other):
        other = self._other(other)
        norm = other.x ** 2 - self.measure * other.y ** 2
        sign = 1 if norm > 0 else -1
        return self * Surd(self.measure, sign * other.below * other.x, -sign * other.below * other.y, abs(norm))

    def __eq__(self, other):
        return self.told() == self._other(other).told()

    def __lt__(self, other):
        return (self - other).side() < 0

    def __le__(self, other):
        return (self - other).side() <= 0

    def __hash__(self):
        return hash(self.told())


def surd(measure, told):
    """The Surd for a root number that the package tells."""
    return Surd(measure, *told)


def cross(one, other):
    return one[0] * other[1] - one[1] * other[0]


def plus(one, other, times=1):
    return one[0] + other[0] * times, one[1] + other[1] * times


def less(one, other):
    return one[0] - other[0], one[1] - other[1]


def dot(one, other):
    return one[0] * other[0] + one[1] * other[1]


class Sheet:
    """The sheet of a cutting; places and vectors are pairs of Surds here, unless they are told."""

    def __init__(self, cutting):
        a, b, c, e = self.cutting = cutting
        self.measure = measure = e * e + 4 * b * c
        self.r = r = Surd(measure, Fraction(e, 2), Fraction(1, 2))
        a, b, c, nought = (Surd(measure, number) for number in (a, b, c, 0))
        self.corners = [(nought, nought), (r, nought), (b, nought), (a + b, c), (a + r, c), (a + r, c + r), (a, c + r),
                        (a, c)]
        self.pieces = [[(nought, nought), (b, nought), (a + b, c), (a, c)],
                       [(a, c), (a + r, c), (a + r, c + r), (a, c + r)]]
        self.glued = {0: 5, 5: 0, 1: 3, 3: 1, 2: 7, 7: 2, 4: 6, 6: 4}

    def pair(self, told):
        return surd(self.measure, told[0]), surd(self.measure, told[1])

    def told(self, pair):
        return pair[0].told(), pair[1].told()

    def edge(self, number):
        return self.corners[number], self.corners[(number + 1) % 8]

    def shift(self, number):
        """What moves an edge to the one to which it is glued, its start to the end of the other one."""
        return less(self.edge(self.glued[number])[1], self.edge(number)[0])

    def is_on(self, number, place):
        start, end = self.edge(number)
        along, there = less(end, start), less(place, start)
        return cross(along, there) == 0 and 0 <= dot(along, there).side() and dot(along, there) <= dot(along, along)

    def is_in(self, piece, place):
        sides = self.pieces[piece]
        return all(cross(less(sides[k - 3], sides[k]), less(place, sides[k])).side() >= 0 for k in range(4))

    def places(self, place):
        """All places that are one point with a place."""
        found = [place]
        for here in found:
            for number in range(8):
                if self.is_on(number, here):
                    there = plus(here, self.shift(number))
                    if there not in found:
                        found.append(there)
        return found

    def name(self, place):
        """The one place by which a point is told."""
        places = self.places(place)
        if [there for there in places if there in self.corners]:
            return self.corners[0]
        names = [there for there in places if [k for k in (0, 1, 6, 7) if self.is_on(k, there)]] or places
        assert len(names) == 1
        return names[0]

    def entered(self, place, vector):
        """A place that is the same point, and a piece into which, or along whose side, the vector goes from there."""
        for there in self.places(place):
            for piece, sides in enumerate(self.pieces):
                if self.is_in(piece, there) and all(
                        cross(less(sides[k - 3], sides[k]), less(there, sides[k])) != 0
                        or cross(less(sides[k - 3], sides[k]), vector).side() >= 0 for k in range(4)):
                    return there, piece
        raise AssertionError("no way on")

    def fly(self, place, vector):
        """The place where a flight ends, and None; or None, and the share of the vector that leads to the corner."""
        flown = Surd(self.measure, 0)
        if dot(vector, vector) == 0:
            return self.name(place), None
        while True:
            place, piece = self.entered(place, vector)
            sides = self.pieces[piece]
            lengths = []
            for k in range(4):
                side = less(sides[k - 3], sides[k])
                if cross(side, vector).side() < 0:
                    lengths.append(cross(less(sides[k], place), side) / cross(vector, side))
            length = min(lengths)
            ahead = [less(corner, place) for corner in self.corners if self.is_in(piece, corner)]
            ahead = [there for there in ahead if cross(there, vector) == 0 and dot(there, vector).side() > 0]
            if ahead:
                share = flown + min(dot(there, vector) / dot(vector, vector) for there in ahead)
                return (None, share) if share <= 1 else (self.name(plus(place, vector, -flown + 1)), None)
            if Surd(self.measure, 1) <= flown + length:
                return self.name(plus(place, vector, -flown + 1)), None
            place, flown = plus(place, vector, length), flown + length
