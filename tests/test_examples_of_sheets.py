"""The examples of DOC.md from roads to floors, value by value and kind by kind."""

from slitsheets.flights import corner_at, flown
from slitsheets.paths import crossing, root_path
from slitsheets.roads import is_road, road
from slitsheets.sheets import area, corners, gluings, is_point, piece_of, point_of, square_side
from support import Case

BENT = (1, 2, 2, -1)


class RoadExamples(Case):

    def test_told_and_judged(self):
        self.assert_same(
            [road((0, 2, 1, -3), (0, 4, 1, -1)),
             is_road((0, 4, 1, 1), (0, 2, 1, -3), road((0, 4, 1, 1), (0, 2, 1, -3))),
             is_road((0, 4, 1, 1), (0, 2, 1, -3), [(0, 1)]), is_road((0, 4, 1, 1), (0, 4, 1, -1), [(0, 1)])],
            [None, True, True, False])


class SheetExamples(Case):

    def test_outline(self):
        self.assert_same(
            [square_side(BENT), corners(BENT), area(BENT)],
            [(-1, 1, 2),
             [((0, 0, 1), (0, 0, 1)), ((-1, 1, 2), (0, 0, 1)), ((2, 0, 1), (0, 0, 1)), ((3, 0, 1), (2, 0, 1)),
              ((1, 1, 2), (2, 0, 1)), ((1, 1, 2), (3, 1, 2)), ((1, 0, 1), (3, 1, 2)), ((1, 0, 1), (2, 0, 1))],
             (17, -1, 2)])
        self.assert_same(
            [gluings(BENT), square_side((0, 2, 1, -1)), area((0, 2, 1, -1))],
            [[(0, 5, ((1, 0, 1), (3, 1, 2))), (1, 3, ((1, 0, 1), (2, 0, 1))), (2, 7, ((-2, 0, 1), (0, 0, 1))),
              (4, 6, ((1, -1, 2), (0, 0, 1)))],
             (1, 0, 1), (3, 0, 1)])

    def test_points(self):
        self.assert_same(
            [point_of(BENT, ((3, 0, 1), (2, 0, 1))), point_of(BENT, ((5, 0, 2), (2, 0, 1))),
             point_of(BENT, ((14, 0, 5), (2, 0, 1))), point_of(BENT, ((5, 0, 2), (1, 0, 1))),
             is_point(BENT, ((1, 0, 1), (2, 0, 1))), piece_of(BENT, ((5, 0, 2), (2, 0, 1)))],
            [((0, 0, 1), (0, 0, 1)), ((5, 0, 2), (2, 0, 1)), ((9, 0, 5), (0, 0, 1)), ((1, 0, 2), (1, 0, 1)), False, 1])


class FlightExamples(Case):

    def test_flown(self):
        self.assert_same(
            [flown(BENT, ((1, 0, 1), (1, 0, 1)), ((1, 0, 1), (0, 0, 1))),
             flown(BENT, ((1, 0, 1), (1, 0, 1)), ((0, 0, 1), (3, 0, 1))),
             flown(BENT, ((1, 0, 1), (1, 0, 1)), ((0, 0, 1), (-3, 0, 1))),
             flown(BENT, ((1, 0, 1), (1, 0, 1)), ((1, 1, 2), (-2, 0, 1)))],
            [((2, 0, 1), (1, 0, 1)), None, ((2, 0, 1), (-1, 1, 2)), ((1, 0, 1), (1, 1, 2))])

    def test_at_the_corner(self):
        self.assert_same(
            [corner_at(BENT, ((1, 0, 1), (1, 0, 1)), ((0, 0, 1), (3, 0, 1))),
             corner_at(BENT, ((1, 0, 2), (1, 0, 1)), ((1, 0, 1), (2, 0, 1))),
             corner_at(BENT, ((1, 0, 1), (1, 0, 1)), ((-1, 0, 1), (-1, 0, 1))),
             corner_at(BENT, ((1, 0, 1), (1, 0, 1)), ((1, 1, 2), (-2, 0, 1)))],
            [(1, 0, 3), (1, 0, 2), (1, 0, 1), None])


class PathExamples(Case):

    def test_crossings_and_the_work_of_the_root(self):
        self.assert_same(
            [crossing([1, 0, 0, 0], [0, 1, 0, 0]), crossing([0, 2, 1, 0], [1, 0, 0, 3]),
             crossing([1, 2, 3, 4], [1, 2, 3, 4]), root_path((0, 1, 1, -1), [1, 0, 0, 0]),
             root_path((0, 2, 1, 0), [1, 2, 0, -1])],
            [1, 1, 0, [-1, 0, 1, 0], [0, -1, 1, 4]])
