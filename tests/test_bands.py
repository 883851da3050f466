"""[39], [40], [41] Bands in the direction of a deed, and the change to the sheet behind it."""

import random
from fractions import Fraction

from slitsheets.bands import around, band_areas, band_of, change, changed, path_vector
from slitsheets.cuttings import is_cutting, measure_of
from slitsheets.deeds import back, deeds, done, is_deed
from slitsheets.errors import InvalidCutting, InvalidDeed, InvalidList, InvalidPoint
from slitsheets.flights import corner_at, flown
from slitsheets.sheets import area, corners, square_side
from slitsheets.tables import deed_table
from plain import SEARCHED, plain_deeds
from plain_sheets import Sheet, Surd, cross, plus, surd
from support import WRONG_CUTTINGS, Case
from test_deeds import GREAT_CUTTINGS, great_deeds
from test_flights import inner_points, some_points
from test_paths import BASE, GOOD_PATHS, WRONG_PATHS, plain_vector
from test_sheets import CORNER, LONG_CUTTINGS
from test_tables import plain_led
from vectors import BENT, NO_VECTORS, NOUGHT, OUTSIDE_BENT, POINTS_BENT, UNNAMED_BENT, VECTORS_17

# A cutting of the measure 17 with more than one deed, and its sheet is that of the examples.
LOW = (0, 2, 1, -3)
CUTTING = ("cutting", InvalidCutting, [BENT], WRONG_CUTTINGS)
NO_DEEDS = [value for value in NO_VECTORS if value != (0, 1)] + [
    (0, 0), (0, -1), (1, 1), (1, 2), (-1, 1), (True, 1), (0, True), [0, 1], (0, 1, 0), (10 ** 29, 1)]
DEED = ("deed", InvalidDeed, [(0, 1)], NO_DEEDS)


def told_pair(pair):
    return pair[0].told(), pair[1].told()


class BandCase(Case):

    def assert_bands(self, cutting, deed, seconds=1):
        """Both vectors and both areas, by their words; the vectors and the areas, as Surds."""
        _, b, c, _ = cutting
        p, q = deed
        other = done(cutting, deed)
        sheet, behind = Sheet(cutting), Sheet(other)
        first = plain_vector(cutting, [0, 0, p, q])
        longer = Surd(sheet.measure, other[1]) / behind.r
        second = (first[0] * longer, first[1] * longer)
        self.assert_same(self.assert_within(seconds, around, cutting, deed), (told_pair(first), told_pair(second)))
        areas = self.assert_within(seconds, band_areas, cutting, deed)
        inner = sheet.r * behind.r
        self.assertEqual(inner, (Surd(sheet.measure, b) - sheet.r * q) * c)
        rest = surd(sheet.measure, area(cutting)) - inner
        self.assert_same(areas, (inner.told(), rest.told()))
        self.assertTrue(inner.side() > 0 and rest.side() > 0)
        self.assert_same(band_areas(other, back(cutting, deed))[0], areas[0])
        return first, second

    def assert_change(self, cutting, deed):
        other = done(cutting, deed)
        measure = measure_of(cutting)
        side, side_behind = Sheet(cutting).r, Sheet(other).r
        told = self.assert_within(1, change, cutting, deed)
        self.assertIsInstance(told, tuple)
        matrix = [[surd(measure, item) for item in row] for row in told]
        self.assert_same(told, tuple(told_pair(row) for row in matrix))
        table = deed_table(cutting, deed)
        for path in BASE + [[3, -1, 4, -7]]:
            vector = plain_vector(cutting, plain_led(table, path))
            meant = tuple(row[0] * vector[0] + row[1] * vector[1] for row in matrix)
            self.assertEqual(meant, plain_vector(other, path))
            self.assert_same(self.assert_within(1, changed, cutting, deed, told_pair(vector)), told_pair(meant))
            self.assert_same(changed(cutting, deed, path_vector(cutting, plain_led(table, path))),
                             path_vector(other, path))
        self.assert_same(changed(cutting, deed, around(cutting, deed)[0]), (side_behind.told(), NOUGHT))
        self.assertEqual(cross(*matrix), side_behind / side)
        self.assertEqual(surd(measure, area(other)), surd(measure, area(cutting)) * cross(*matrix))

    def assert_band(self, cutting, deed, point):
        """The band of a point, as the flights around tell it."""
        told = self.assert_within(2, band_of, cutting, deed, point)
        vectors = around(cutting, deed)
        sheet = Sheet(cutting)
        if told is None:
            self.assertIsNotNone(corner_at(cutting, point, vectors[1]))
            self.assertIsNone(flown(cutting, point, vectors[1]))
            return told
        self.assertIn(told, (0, 1))
        self.assertIs(isinstance(told, bool), False)
        vector = sheet.pair(vectors[told])
        self.assert_same(flown(cutting, point, vectors[told]), point)
        for parts in (2, 3, 5, 7):
            part = tuple(item / parts for item in vector)
            self.assertNotEqual(flown(cutting, point, told_pair(part)), point)
        if told == 1:
            self.assertNotEqual(flown(cutting, point, vectors[0]), point)
        return told


class Vectors(BandCase):

    def test_path_vectors(self):
        rng = random.Random(39)
        for cutting in [cutting for told in SEARCHED.values() for cutting in told][::3] + GREAT_CUTTINGS:
            outline = corners(cutting)
            self.assert_same([path_vector(cutting, base) for base in BASE],
                             [(square_side(cutting), NOUGHT), (NOUGHT, square_side(cutting)), outline[2], outline[7]])
            for bound in (9, 10 ** 29):
                path = [rng.randrange(-bound, bound + 1) for _ in range(4)]
                self.assert_same(path_vector(cutting, path), told_pair(plain_vector(cutting, path)))

    def test_around_and_areas_of_small_cuttings(self):
        for measure, told in SEARCHED.items():
            for cutting in told[::1 if measure < 90 else 2]:
                for deed in plain_deeds(cutting)[::1 if measure < 50 else 3]:
                    self.assert_bands(cutting, deed)

    def test_around_and_areas_of_great_cuttings(self):
        for cutting in GREAT_CUTTINGS + LONG_CUTTINGS:
            for deed in great_deeds(cutting):
                self.assert_bands(cutting, deed)

    def test_wrong_arguments(self):
        path = ("path", InvalidList, GOOD_PATHS, WRONG_PATHS)
        self.assert_refusals(path_vector, CUTTING, path)
        self.assert_taken(path_vector, CUTTING, path)
        for function in (around, band_areas, change):
            self.assert_refusals(function, CUTTING, DEED)
            self.assert_taken(function, ("cutting", None, [BENT, (0, 4, 1, 1)], []), DEED)


class Bands(BandCase):

    def test_points_of_small_sheets(self):
        rng = random.Random(40)
        bands = {0: 0, 1: 0, None: 0}
        for measure in (5, 8, 9, 12, 16, 17, 25, 33, 45):
            for cutting in SEARCHED[measure]:
                sheet = Sheet(cutting)
                for deed in deeds(cutting)[:6]:
                    for point in some_points(sheet, rng, 6):
                        bands[self.assert_band(cutting, deed, sheet.told(point))] += 1
        self.assertGreater(min(bands.values()), 30)

    def test_rims(self):
        for measure in (5, 8, 9, 17, 25, 45):
            for cutting in SEARCHED[measure]:
                sheet = Sheet(cutting)
                for deed in deeds(cutting)[:5]:
                    first, second = [sheet.pair(vector) for vector in around(cutting, deed)]
                    for point in some_points(sheet, random.Random(measure), 2):
                        share = corner_at(cutting, sheet.told(point), told_pair(second))
                        self.assertEqual(share is None, band_of(cutting, deed, sheet.told(point)) is not None)
                    # Out of the corner in the direction of the deed, into the slanted piece, one comes along a rim;
                    # that rim ends in the corner again, and on it there is no way around.
                    for times in (Fraction(1, 10 ** 6), Fraction(1, 10 ** 5)):
                        place = (first[0] * times, first[1] * times)
                        if sheet.is_in(0, place) and sheet.name(place) != sheet.corners[0]:
                            point = sheet.told(sheet.name(place))
                            self.assert_same(band_of(cutting, deed, point), None)
                            self.assert_band(cutting, deed, point)

    def test_the_share_of_each_band_is_that_of_its_area(self):
        # Along a level line, the points of each band lie in stretches; so many of all as the areas tell, nearly.
        for cutting, deed in (
                (LOW, (1, 2)), (LOW, (0, 1)), (BENT, (0, 1)), ((0, 2, 1, 0), (0, 1)), ((0, 6, 1, -1), (1, 2))):
            self.assertTrue(is_deed(cutting, deed))
            sheet = Sheet(cutting)
            found = {0: 0, 1: 0, None: 0}
            rng = random.Random(41)
            for point in some_inner_points(sheet, rng, 300):
                found[band_of(cutting, deed, sheet.told(point))] += 1
            inner, outer = [surd(sheet.measure, told) for told in band_areas(cutting, deed)]
            share = inner / (inner + outer)
            self.assertLess(abs(found[0] - (share * 300).floor()), 45)

    def test_points_of_great_sheets(self):
        told = []
        for cutting, deed in great_bands():
            sheet = Sheet(cutting)
            told += [self.assert_band(cutting, deed, sheet.told(point)) for point in inner_points(sheet)]
        self.assertEqual(set(told), {0, 1, None})

    def test_wrong_arguments(self):
        point = ("point", InvalidPoint, POINTS_BENT, NO_VECTORS + OUTSIDE_BENT + UNNAMED_BENT + [CORNER])
        self.assert_refusals(band_of, CUTTING, DEED, point)
        self.assert_taken(band_of, CUTTING, DEED, point)


def some_inner_points(sheet, rng, many):
    """Points anywhere, as many in each piece as its area asks for, nearly."""
    _, b, c, _ = sheet.cutting
    square, slanted = sheet.r * sheet.r, Surd(sheet.measure, b * c)
    inner = (square / (square + slanted) * many).floor()
    for number in range(many):
        sides = sheet.pieces[number < inner]
        along, up = (Fraction(rng.randrange(1, 10 ** 6), 10 ** 6) for _ in range(2))
        right, top = plus(sides[1], sides[0], -1), plus(sides[3], sides[0], -1)
        yield plus(plus(sides[0], right, along), top, up)


def great_bands():
    """Cuttings with great numbers, and deeds of them, both vectors of which are within the limit of [29]."""
    found = []
    others = [(0, 10 ** 11, 10 ** 11 - 4, 3), (1, 999999 * 7, 77, 5), (0, 10 ** 12 - 1, 13, 1), (0, 300, 2, 1), BENT,
              (0, 5 * 10 ** 11, 3 * 10 ** 10, 7), (0, 9 * 10 ** 11, 2 * 10 ** 10, -3000000001), (0, 123456, 1, 350)]
    for cutting in LONG_CUTTINGS + others:
        assert is_cutting(cutting), cutting
        sheet = Sheet(cutting)
        lesser = min(sheet.r, sheet.corners[7][1])
        for deed in sorted(set(great_deeds(cutting))):
            vectors = [sheet.pair(vector) for vector in around(cutting, deed)]
            if max(vector[1] for vector in vectors) <= lesser * 400:
                found.append((cutting, deed))
    return found


class Changes(BandCase):

    def test_of_small_cuttings(self):
        for measure, told in SEARCHED.items():
            for cutting in told[::1 if measure < 60 else 3]:
                for deed in plain_deeds(cutting)[::1 if measure < 40 else 4]:
                    self.assert_change(cutting, deed)

    def test_of_great_cuttings(self):
        for cutting in GREAT_CUTTINGS + LONG_CUTTINGS:
            for deed in great_deeds(cutting)[::3]:
                self.assert_change(cutting, deed)

    def test_any_vector(self):
        for vector in VECTORS_17:
            rows = change(LOW, (1, 2))
            x, y = surd(17, vector[0]), surd(17, vector[1])
            meant = tuple(surd(17, row[0]) * x + surd(17, row[1]) * y for row in rows)
            self.assert_same(changed(LOW, (1, 2), vector), told_pair(meant))

    def test_wrong_arguments(self):
        vector = ("vector", InvalidPoint, VECTORS_17, NO_VECTORS)
        self.assert_refusals(changed, CUTTING, DEED, vector)
        self.assert_taken(changed, CUTTING, DEED, vector)
        for value in (((0, 1, 1), NOUGHT), ((1, 0, 1), (0, 1, 9)), ((1, 1, 7), (1, 0, 2))):
            self.assert_refused(InvalidPoint, value, changed, (0, 2, 1, -1), (0, 1), value)
            self.assert_refused(InvalidPoint, value, band_of, (0, 2, 1, -1), (0, 1), value)

    def test_equal_calls_bring_equal_results_whatever_lies_between(self):
        calls = [(path_vector, LOW, [1, 2, 3, 4]), (around, LOW, (1, 2)), (band_areas, LOW, (1, 3)),
                 (band_of, LOW, (1, 2), ((1, 0, 11), (1, 0, 7))), (change, LOW, (2, 3)),
                 (changed, LOW, (1, 2), VECTORS_17[0])]
        self.assert_repeated(calls)
        path = [1, 2, 3, 4]
        told = path_vector(LOW, path)
        path[0] = 5
        self.assertNotEqual(path_vector(LOW, path), told)
