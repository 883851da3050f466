"""[27], [28] Sheets: the outline, what is glued, and the names of points."""

from fractions import Fraction

from slitsheets.cuttings import is_cutting, measure_of
from slitsheets.errors import InvalidCutting, InvalidPoint
from slitsheets.rootnumbers import root_plus, root_times
from slitsheets.sheets import area, corners, gluings, is_point, piece_of, point_of, square_side
from plain import SEARCHED
from plain_sheets import Sheet, Surd, cross, less, plus
from support import WRONG_CUTTINGS, Case
from test_deeds import GREAT_CUTTINGS
from vectors import BENT, FLAT, NO_VECTORS, NOUGHT, OUTSIDE_BENT, POINTS_BENT, UNNAMED_BENT, WHOLE

CORNER = (NOUGHT, NOUGHT)
CUTTING = ("cutting", InvalidCutting, [BENT], WRONG_CUTTINGS)
PLACE = ("place", InvalidPoint, POINTS_BENT + UNNAMED_BENT + [CORNER], NO_VECTORS + OUTSIDE_BENT)
POINT = ("point", InvalidPoint, POINTS_BENT + [CORNER], NO_VECTORS + OUTSIDE_BENT + UNNAMED_BENT)
SHARES = [Fraction(0), Fraction(1, 7), Fraction(1, 2), Fraction(5, 6), Fraction(1)]

# Of up to twelve figures, the squares of which are small and great beside what is below them.
LONG_CUTTINGS = [
    (0, 999999999989, 1, -999), (0, 1, 999999999989, -999999999989), (0, 999999999989, 999999999961, 2),
    (0, 999999999989, 1, 999999999987), (123456789, 987654321, 987654321, -5),
    (0, 10 ** 11 + 3, 10 ** 11 + 1, -(10 ** 11)),
    (1, 6 * 10 ** 11, 9 * 10 ** 11, -(4 * 10 ** 11) + 1), (0, 999983 ** 2 // 4, 1, 1), (0, 2, 1, -999999999999)]


class SheetCase(Case):

    def assert_outline(self, cutting):
        sheet = Sheet(cutting)
        side = self.assert_within(1, square_side, cutting)
        self.assert_same(side, sheet.r.told())
        self.assertTrue(Surd(sheet.measure, 0) < sheet.r < Surd(sheet.measure, cutting[1]))
        outline = self.assert_within(1, corners, cutting)
        self.assert_same(outline, [sheet.told(corner) for corner in sheet.corners])
        told = self.assert_within(1, gluings, cutting)
        self.assert_same([pair[:2] for pair in told], [(0, 5), (1, 3), (2, 7), (4, 6)])
        for edge, other, shift in told:
            self.assert_same(shift, sheet.told(sheet.shift(edge)))
            ends = [outline[edge], outline[(edge + 1) % 8]]
            moved = [tuple(root_plus(sheet.measure, end[k], shift[k]) for k in range(2)) for end in ends]
            self.assert_same(moved, [outline[(other + 1) % 8], outline[other]])
        self.assert_area(sheet)

    def assert_area(self, sheet):
        """The area by going around the outline, and both ways in which [27] tells it."""
        measure, (_, b, c, _) = sheet.measure, sheet.cutting
        around = Surd(measure, 0)
        for k in range(8):
            around = around + cross(sheet.corners[k], sheet.corners[(k + 1) % 8])
        told = self.assert_within(1, area, sheet.cutting)
        self.assert_same(told, (around / 2).told())
        self.assert_same(told, (sheet.r * sheet.r + b * c).told())
        self.assert_same(told, (sheet.r * Surd(measure, 0, 1)).told())


class Outline(SheetCase):

    def test_of_small_cuttings(self):
        for told in SEARCHED.values():
            for cutting in told:
                self.assert_outline(cutting)

    def test_of_great_cuttings(self):
        great = 10 ** 29
        for cutting in [*GREAT_CUTTINGS, *LONG_CUTTINGS, (0, great, great - 7, 6), (0, great, 2, great - 3)]:
            self.assertTrue(is_cutting(cutting), cutting)
            self.assert_outline(cutting)

    def test_whole_roots(self):
        for n in (3, 4, 5, 6, 9, 10 ** 14 + 7):
            for side in sorted({1, n // 2, n - 1}):
                b, c, e = n - side, side, 2 * side - n
                if is_cutting((0, b, c, e)):
                    self.assert_same(square_side((0, b, c, e)), (side, 0, 1))
                    self.assert_same(area((0, b, c, e)), (side * n, 0, 1))
                    self.assertEqual([y for corner in corners((0, b, c, e)) for _, y, _ in corner], [0] * 16)
                    self.assert_outline((0, b, c, e))

    def test_wrong_arguments(self):
        for function in (square_side, corners, gluings, area):
            self.assert_refusals(function, CUTTING)
            self.assert_taken(function, ("cutting", None, [BENT, WHOLE, FLAT], []))

    def test_each_list_is_a_new_one(self):
        for function in (corners, gluings):
            told = function(BENT)
            meant = list(told)
            self.assertIsNot(function(BENT), told)
            told.clear()
            self.assert_same(function(BENT), meant)


class Points(SheetCase):

    def assert_place(self, sheet, place):
        """Every place that is one point with this one has its name, and only the name is a point."""
        name = sheet.told(sheet.name(place))
        for other in sheet.places(place):
            told = sheet.told(other)
            self.assert_same(self.assert_within(1, point_of, sheet.cutting, told), name)
            self.assert_same(self.assert_within(1, is_point, sheet.cutting, told), told == name)
            if told == name:
                height = sheet.name(place)[1] - sheet.cutting[2]
                self.assert_same(piece_of(sheet.cutting, told), 0 if height.side() < 0 else 1)
            else:
                self.assert_refused(InvalidPoint, told, piece_of, sheet.cutting, told)

    def assert_all_places(self, sheet, shares):
        for piece in sheet.pieces:
            along, up = less(piece[1], piece[0]), less(piece[3], piece[0])
            for one in shares:
                for other in shares:
                    place = plus(plus(piece[0], along, one), up, other)
                    self.assert_place(sheet, place)

    def test_places_in_small_sheets(self):
        for measure in (5, 8, 9, 12, 17, 25, 36, 48, 60):
            for cutting in SEARCHED[measure]:
                self.assert_all_places(Sheet(cutting), SHARES)

    def test_places_in_flat_and_high_sheets(self):
        for cutting in LONG_CUTTINGS:
            self.assertTrue(is_cutting(cutting), cutting)
            self.assert_all_places(Sheet(cutting), [Fraction(0), Fraction(1, 3), Fraction(1, 2), Fraction(1)])

    def test_glued_edges(self):
        for cutting in [BENT, WHOLE, FLAT, (0, 1, 1, -1), (1, 3, 3, -9), *LONG_CUTTINGS]:
            sheet, measure = Sheet(cutting), measure_of(cutting)
            for edge, other, shift in gluings(cutting):
                start, end = sheet.edge(edge)
                for share in (Fraction(1, 10 ** 9), Fraction(1, 3), Fraction(1, 2), Fraction(999, 1000)):
                    place = sheet.told(plus(start, less(end, start), share))
                    moved = tuple(root_plus(measure, place[k], shift[k]) for k in range(2))
                    kept = place if edge in (0, 1, 6, 7) else moved
                    self.assertIn(other if kept == moved else edge, (0, 1, 6, 7))
                    self.assert_same([point_of(cutting, place), point_of(cutting, moved)], [kept, kept])
                    self.assert_same([is_point(cutting, place), is_point(cutting, moved)],
                                     [place == kept, moved == kept])

    def test_all_corners_are_the_corner(self):
        for cutting in [cutting for told in SEARCHED.values() for cutting in told] + LONG_CUTTINGS:
            for number, corner in enumerate(corners(cutting)):
                self.assert_same(point_of(cutting, corner), CORNER)
                self.assert_same(is_point(cutting, corner), number == 0)
            self.assert_same(piece_of(cutting, CORNER), 0)

    def test_the_side_that_both_pieces_share_is_no_edge(self):
        for cutting in [BENT, WHOLE, (0, 1, 1, -1), (1, 3, 3, -9), *LONG_CUTTINGS]:
            a, _, c, _ = cutting
            measure, side = measure_of(cutting), square_side(cutting)
            for share in ((1, 0, 3), (1, 0, 10 ** 6), (999, 0, 1000)):
                place = (root_plus(measure, (a, 0, 1), root_times(measure, side, share)), (c, 0, 1))
                self.assert_same(point_of(cutting, place), place)
                self.assert_same([is_point(cutting, place), piece_of(cutting, place)], [True, 1])

    def test_places_just_outside(self):
        for cutting in [BENT, WHOLE, FLAT, (1, 3, 3, -9), *LONG_CUTTINGS]:
            sheet = Sheet(cutting)
            little = Fraction(1, 10 ** 27)
            for number in range(8):
                start, end = sheet.edge(number)
                along = less(end, start)
                middle = plus(start, along, Fraction(1, 2))
                # The outline goes around with the pieces on its left, so this is outside, and that is within.
                beyond = (along[1], -along[0])
                outside = sheet.told(plus(middle, beyond, little))
                self.assert_refused(InvalidPoint, outside, point_of, cutting, outside)
                self.assert_refused(InvalidPoint, outside, piece_of, cutting, outside)
                self.assert_same(is_point(cutting, outside), False)
                within = sheet.told(plus(middle, beyond, -little))
                self.assert_same(point_of(cutting, within), within)
                self.assert_same(is_point(cutting, within), True)

    def test_root_numbers_of_a_whole_root_have_no_root(self):
        for value in (((0, 1, 1), NOUGHT), ((1, 0, 1), (0, 1, 9)), ((1, 1, 7), (1, 0, 2)), ((-2, 1, 2), (1, 0, 2))):
            self.assert_refused(InvalidPoint, value, point_of, WHOLE, value)
            self.assert_refused(InvalidPoint, value, piece_of, WHOLE, value)
            self.assert_same(is_point(WHOLE, value), False)
        for value in (((1, 0, 2), NOUGHT), ((1, 0, 2), (1, 0, 2)), ((1, 0, 2), (3, 0, 2))):
            self.assert_same(point_of(WHOLE, value), value)

    def test_any_value_is_judged(self):
        self.assert_judged_false(NO_VECTORS + OUTSIDE_BENT + UNNAMED_BENT, is_point, BENT)
        for point in POINTS_BENT + [CORNER]:
            self.assert_same(is_point(cutting=BENT, value=point), True)

    def test_wrong_arguments(self):
        self.assert_refusals(point_of, CUTTING, PLACE)
        self.assert_taken(point_of, CUTTING, PLACE)
        self.assert_refusals(piece_of, CUTTING, POINT)
        self.assert_taken(piece_of, CUTTING, POINT)
        for wrong in WRONG_CUTTINGS:
            for value in [CORNER, None, True, NOUGHT, ((9, 0, 5), NOUGHT), wrong]:
                self.assert_refused(InvalidCutting, wrong, is_point, wrong, value)
            self.assert_refused(InvalidCutting, wrong, is_point, cutting=wrong, value=CORNER)

    def test_equal_calls_bring_equal_results_whatever_lies_between(self):
        calls = [(corners, BENT), (gluings, WHOLE), (area, BENT), (square_side, FLAT), (is_point, BENT, CORNER),
                 (point_of, BENT, UNNAMED_BENT[3]), (piece_of, BENT, POINTS_BENT[4])]
        self.assert_repeated(calls)
