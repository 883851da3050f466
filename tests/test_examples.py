"""The examples of DOC.md for root numbers and cuttings, value by value and kind by kind ([6]: test_measures)."""

from slitsheets.cuttings import (
    cutting_number, cutting_numbered, cuttings, how_many_cuttings, how_many_with_last, is_cutting, measure_of,
    next_cutting)
from slitsheets.rootnumbers import (
    is_root, root_floor, root_less, root_number, root_over, root_plus, root_side, root_times)
from support import Case


class RootNumberExamples(Case):

    def test_made_and_judged(self):
        self.assert_same(
            [root_number(5, 2, 2, 4), root_number(9, 1, 1, -2),
             is_root(5, (1, 1, 2)), is_root(9, (1, 1, 2)), is_root(5, (2, 2, 4))],
            [(1, 1, 2), (-2, 0, 1), True, False, False])

    def test_reckoned(self):
        self.assert_same(
            [root_times(5, (1, 1, 2), (1, 1, 2)), root_over(5, (1, 0, 1), (1, 1, 2)),
             root_plus(5, (1, 1, 2), (1, -1, 2)), root_less(8, (0, 1, 2), (1, 0, 1))],
            [(3, 1, 2), (-1, 1, 2), (1, 0, 1), (-2, 1, 2)])

    def test_side_and_floor(self):
        self.assert_same(
            [root_side(5, (-2, 1, 1)), root_side(8, (-3, 1, 1)),
             root_floor(5, (1, 1, 2)), root_floor(5, (1, -1, 2)), root_floor(8, (-3, 1, 1))],
            [1, -1, 1, -1, -1])


class CuttingExamples(Case):

    def test_judged_and_measured(self):
        self.assert_same(
            [is_cutting((0, 1, 1, -1)), is_cutting((1, 2, 2, -1)), is_cutting((0, 2, 2, -2)),
             is_cutting((0, 1, 1, 0)), is_cutting([0, 1, 1, -1]), measure_of((1, 2, 2, -1)), measure_of((0, 6, 1, 0))],
            [True, True, False, False, False, 17, 24])

    def test_listed_and_counted(self):
        self.assert_same(
            [cuttings(5), cuttings(9), cuttings(8), cuttings(17),
             [how_many_cuttings(measure) for measure in [12, 13, 16, 20, 21, 24, 25, 45]]],
            [[(0, 1, 1, -1)], [(0, 2, 1, -1)], [(0, 1, 1, -2), (0, 2, 1, 0)],
             [(0, 1, 2, -3), (0, 2, 1, -3), (0, 2, 2, -1), (0, 4, 1, -1), (0, 4, 1, 1), (1, 2, 2, -1)],
             [3, 3, 2, 5, 4, 6, 6, 8]])

    def test_numbered(self):
        self.assert_same(
            [how_many_with_last(17, -1), how_many_with_last(17, 3), how_many_with_last(17, 0),
             cutting_number((0, 4, 1, 1)), cutting_numbered(17, 2), next_cutting((0, 4, 1, 1)),
             next_cutting((1, 2, 2, -1)), how_many_cuttings(2000)],
            [3, 0, 0, 4, (0, 2, 2, -1), (1, 2, 2, -1), None, 224])
