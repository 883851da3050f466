"""[29], [30] Flights over a sheet, and where they come to the corner."""

import random
from fractions import Fraction

from slitsheets.cuttings import measure_of
from slitsheets.errors import InvalidCutting, InvalidPoint
from slitsheets.flights import corner_at, flown
from slitsheets.rootnumbers import is_root, root_less, root_plus, root_side, root_times
from slitsheets.sheets import corners, is_point, point_of
from plain import SEARCHED
from plain_sheets import Sheet, Surd, less, plus
from support import WRONG_CUTTINGS, Case
from test_sheets import CORNER, LONG_CUTTINGS
from vectors import (
    BENT, FLAT, NO_VECTORS, NOUGHT, OUTSIDE_BENT, POINTS_BENT, UNNAMED_BENT, VECTORS_17, WHOLE)

ONE = (1, 0, 1)
CUTTING = ("cutting", InvalidCutting, [BENT], WRONG_CUTTINGS)
POINT = ("point", InvalidPoint, POINTS_BENT, NO_VECTORS + OUTSIDE_BENT + UNNAMED_BENT + [CORNER])
VECTOR = ("vector", InvalidPoint, VECTORS_17, NO_VECTORS)


def scaled(measure, vector, share):
    return tuple(root_times(measure, item, share) for item in vector)


def opposite(measure, vector):
    return scaled(measure, vector, (-1, 0, 1))


class FlightCase(Case):

    def assert_flight(self, cutting, point, vector, seconds=3):
        """A flight leads to a point, back from there and there along parts of it, or else to the corner."""
        measure = measure_of(cutting)
        end = self.assert_within(seconds, flown, cutting, point, vector)
        share = self.assert_within(seconds, corner_at, cutting, point, vector)
        if end is None:
            self.assert_same(is_root(measure, share), True)
            self.assert_same([root_side(measure, share), root_side(measure, root_less(measure, ONE, share)) >= 0],
                             [1, True])
            self.assert_comes_to_the_corner(cutting, point, vector, share)
            return None
        self.assertIsNone(share)
        self.assert_same(is_point(cutting, end), True)
        self.assertNotEqual(end, CORNER)
        self.assert_same(flown(cutting, end, opposite(measure, vector)), point)
        self.assertIsNone(corner_at(cutting, end, opposite(measure, vector)))
        for part in ((1, 0, 3), (5, 0, 7)):
            middle = flown(cutting, point, scaled(measure, vector, part))
            rest = scaled(measure, vector, root_less(measure, ONE, part))
            self.assert_same(flown(cutting, middle, rest), end)
        return end

    def assert_comes_to_the_corner(self, cutting, point, vector, share):
        """Just along the told share, and along all beyond it, nobody arrives; along less somebody does."""
        measure = measure_of(cutting)
        for part, told in ((ONE, ONE), ((3, 0, 2), (2, 0, 3)), ((10 ** 6 + 1, 0, 10 ** 6), (10 ** 6, 0, 10 ** 6 + 1)),
                           ((1, 0, 2), None), ((10 ** 6 - 1, 0, 10 ** 6), None)):
            part_there = scaled(measure, vector, root_times(measure, share, part))
            self.assert_same(corner_at(cutting, point, part_there), told)
            end = flown(cutting, point, part_there)
            if told is not None:
                self.assertIsNone(end)
                continue
            self.assert_same(is_point(cutting, end), True)
            self.assert_same(flown(cutting, end, opposite(measure, part_there)), point)


def some_points(sheet, rng, many):
    """Points of a sheet, on edges and the shared side and elsewhere; no corner."""
    found = []
    while len(found) < many:
        along, up = (rng.choice([Fraction(0), Fraction(1), Fraction(rng.randrange(1, 24), 24)]) for _ in range(2))
        side = sheet.pieces[rng.randrange(2)]
        place = plus(plus(side[0], less(side[1], side[0]), along), less(side[3], side[0]), up)
        if sheet.name(place) != sheet.corners[0]:
            found.append(sheet.name(place))
    return found


def some_vectors(sheet, rng, point):
    """Vectors of all kinds: any, along edges, level, straight up, to corners and there on and on."""
    measure = sheet.measure
    one, other = (rng.choice(sheet.corners) for _ in range(2))
    times = Fraction(rng.randrange(-9, 10), 3)
    yield tuple(Surd(measure, rng.randrange(-3, 4)) for _ in range(2))
    yield tuple(Surd(measure, Fraction(rng.randrange(-7, 8), 2), Fraction(rng.randrange(-3, 4), 3)) for _ in range(2))
    yield Surd(measure, Fraction(rng.randrange(-40, 41), 7)), Surd(measure, 0)
    yield Surd(measure, 0), Surd(measure, Fraction(rng.randrange(-20, 21), 4), Fraction(rng.randrange(-1, 2)))
    yield tuple(item * times for item in less(one, point))
    yield tuple(item * times for item in less(one, other))
    yield less(plus(one, less(other, sheet.corners[2]), rng.randrange(-1, 2)), point)


class Small(FlightCase):

    def test_against_flights_edge_by_edge(self):
        rng = random.Random(29)
        ended = [0, 0]
        for measure in (5, 8, 9, 12, 16, 17, 25, 28, 45, 49, 60):
            for cutting in SEARCHED[measure]:
                sheet = Sheet(cutting)
                for point in some_points(sheet, rng, 4):
                    for vector in some_vectors(sheet, rng, point):
                        end, share = sheet.fly(point, vector)
                        told = cutting, sheet.told(point), sheet.told(vector)
                        self.assert_same(flown(*told), None if end is None else sheet.told(end))
                        self.assert_same(corner_at(*told), None if share is None else share.told())
                        ended[end is None] += 1
        self.assertGreater(min(ended), 200)

    def test_back_and_along_parts(self):
        rng = random.Random(30)
        for measure in (5, 9, 13, 17, 20, 36, 41, 84):
            for cutting in SEARCHED[measure]:
                sheet = Sheet(cutting)
                for point in some_points(sheet, rng, 2):
                    for vector in some_vectors(sheet, rng, point):
                        self.assert_flight(cutting, sheet.told(point), sheet.told(vector))

    def test_no_flight_at_all(self):
        for point in POINTS_BENT:
            self.assert_same(flown(BENT, point, (NOUGHT, NOUGHT)), point)
            self.assertIsNone(corner_at(BENT, point, (NOUGHT, NOUGHT)))

    def test_along_edges_and_the_shared_side(self):
        for cutting in [BENT, WHOLE, FLAT, (0, 1, 1, -1), (1, 3, 3, -9), *LONG_CUTTINGS]:
            measure, outline = measure_of(cutting), corners(cutting)
            lines = [(outline[k], outline[(k + 1) % 8]) for k in range(8)] + [(outline[7], outline[4])]
            for start, end in lines:
                along = tuple(root_less(measure, end[k], start[k]) for k in range(2))
                point = point_of(cutting, tuple(
                    root_plus(measure, start[k], root_times(measure, along[k], (2, 0, 5))) for k in range(2)))
                self.assert_same(corner_at(cutting, point, along), (3, 0, 5))
                self.assert_same(corner_at(cutting, point, opposite(measure, along)), (2, 0, 5))
                self.assertIsNone(flown(cutting, point, along))
                # Just to the end, and just not.
                self.assertIsNone(flown(cutting, point, scaled(measure, along, (3, 0, 5))))
                self.assertIsNone(flown(cutting, point, scaled(measure, along, (-2, 0, 5))))
                there = flown(cutting, point, scaled(measure, along, (59, 0, 100)))
                self.assert_same(corner_at(cutting, there, along), (1, 0, 100))
                self.assertIsNone(corner_at(cutting, point, scaled(measure, along, (59, 0, 100))))

    def test_level_flights_come_round(self):
        for cutting in [BENT, WHOLE, FLAT, (1, 3, 3, -9), *LONG_CUTTINGS]:
            sheet = Sheet(cutting)
            low, high = [sheet.told(point) for point in inner_points(sheet)[:2]]
            for point, around in ((low, sheet.corners[2][0]), (high, sheet.r)):
                for times in (1, -1, 3, 10 ** 16 + 7, -(10 ** 16)):
                    nought = Surd(sheet.measure, 0)
                    self.assert_same(flown(cutting, point, sheet.told((around * times, nought))), point)
                    self.assert_flight(cutting, point, sheet.told((around * times + Fraction(1, 9), nought)))


def inner_points(sheet):
    """A point within the slanted piece, one within the square, one on edge 0 and one on the shared side."""
    along, up = less(sheet.corners[2], sheet.corners[0]), sheet.corners[7]
    side, high = (sheet.r, Surd(sheet.measure, 0)), (Surd(sheet.measure, 0), sheet.r)
    low = plus(plus(sheet.corners[0], along, Fraction(2, 7)), up, Fraction(1, 3))
    return [low, plus(plus(up, side, Fraction(5, 9)), high, Fraction(1, 2)),
            plus(sheet.corners[0], side, Fraction(1, 3)), plus(up, side, Fraction(123, 1000))]


class Great(FlightCase):

    def assert_high_flights(self, cutting, far, heights):
        """Flights of all points, as far aside, and as many times as high as the lesser one of r and c."""
        sheet = Sheet(cutting)
        lesser = min(sheet.r, sheet.corners[7][1])
        pairs = [(across, times) for times in heights for across in far]
        for number, point in enumerate(inner_points(sheet)):
            self.assertEqual(sheet.name(point), point)
            for across, times in pairs[number % 3::3]:
                self.assert_flight(cutting, sheet.told(point), (across, (lesser * times).told()))

    def test_four_hundred_times_as_high_and_far_aside(self):
        far = [(10 ** 28 + 1, 0, 1), (-(10 ** 29) + 6, 0, 7), (10 ** 28 + 7, 10 ** 27 + 1, 2), (0, -(10 ** 20), 1),
               NOUGHT]
        for cutting in LONG_CUTTINGS + [BENT, FLAT, (0, 1, 1, -1)]:
            whole = not is_root(measure_of(cutting), (0, 1, 1))
            self.assert_high_flights(cutting, [x for x in far if not whole or x[1] == 0], [400, -400])

    def test_whole_roots(self):
        for cutting in [WHOLE, (0, 6, 1, -1), (1, 2, 2, -3), (0, 2 * 10 ** 11 - 4, 1, 10 ** 11 - 4),
                        (0, 5, 6 * 10 ** 10, 3 - 10 ** 11), (3, 7 * 10 ** 5, 3 * 10 ** 5, -4 * 10 ** 5)]:
            self.assertEqual(Sheet(cutting).r.y, 0, cutting)
            far = [(10 ** 28 + 1, 0, 1), (-(10 ** 29) + 6, 0, 7), NOUGHT]
            self.assert_high_flights(cutting, far, [400, -400, Fraction(1, 7)])

    def test_to_the_corner_after_many_rounds(self):
        for cutting in LONG_CUTTINGS + [BENT, WHOLE, FLAT]:
            sheet = Sheet(cutting)
            low, high = inner_points(sheet)[:2]
            wide = sheet.corners[2][0]
            for point, corner, width in (
                    (low, 7, wide), (low, 4, wide), (low, 0, wide), (low, 1, wide), (high, 6, sheet.r)):
                for rounds in (0, 1, -2, 10 ** 15):
                    vector = plus(less(sheet.corners[corner], point), (width, Surd(sheet.measure, 0)), rounds)
                    told = sheet.told(point), sheet.told(vector)
                    self.assert_same(corner_at(cutting, *told), ONE)
                    self.assert_comes_to_the_corner(cutting, *told, ONE)


class Refused(FlightCase):

    def test_wrong_arguments(self):
        for function in (flown, corner_at):
            self.assert_refusals(function, CUTTING, POINT, VECTOR)
            self.assert_taken(function, CUTTING, POINT, VECTOR)

    def test_the_corner_and_other_names_are_no_points_to_fly_from(self):
        for cutting in [BENT, WHOLE, FLAT]:
            for corner in corners(cutting):
                for vector in ((ONE, NOUGHT), (NOUGHT, NOUGHT), None, corner):
                    self.assert_refused(InvalidPoint, corner, flown, cutting, corner, vector)
                    self.assert_refused(InvalidPoint, corner, corner_at, cutting, corner, vector)

    def test_vectors_with_a_whole_root(self):
        point = ((1, 0, 2), (1, 0, 2))
        for vector in (((0, 1, 1), NOUGHT), (ONE, (0, 1, 9)), ((1, 1, 7), (1, 0, 2))):
            self.assert_refused(InvalidPoint, vector, flown, WHOLE, point, vector)
            self.assert_refused(InvalidPoint, vector, corner_at, WHOLE, point, vector)
            self.assert_refused(InvalidPoint, vector, flown, WHOLE, vector, vector)

    def test_equal_calls_bring_equal_results_whatever_lies_between(self):
        calls = [(function, BENT, point, vector) for function in (flown, corner_at)
                 for point in POINTS_BENT[:4] for vector in VECTORS_17]
        self.assert_repeated(calls)
