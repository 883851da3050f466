"""The examples of DOC.md from roads to floors, value by value and kind by kind."""

from slitsheets.bands import around, band_areas, band_of, change, changed, path_vector
from slitsheets.flights import corner_at, flown
from slitsheets.floors import (
    bands, cutting_of, floor_led, floor_with, floor_word, floors_joined, floors_of, half_turn, how_many_floors,
    how_many_with, is_floor, middles, named, sheared, turned)
from slitsheets.paths import crossing, root_path
from slitsheets.roads import is_road, road
from slitsheets.roundwords import round_kind, round_numbers, round_order, round_power
from slitsheets.sheets import area, corners, gluings, is_point, piece_of, point_of, square_side
from slitsheets.tables import (
    back_shear, deed_table, keeps_crossings, led_path, shear_table, table_back, word_table)
from support import Case

BENT, LOW, LEAST = (1, 2, 2, -1), (0, 2, 1, -3), (0, 1, 1, -1)
THREE, LONG = ([1, 0, 2], [2, 1, 0]), ([1, 2, 3, 4, 0], [4, 1, 2, 3, 0])


class RoadExamples(Case):

    def test_told_and_judged(self):
        self.assert_same(
            [road((0, 2, 1, -3), (0, 4, 1, -1)),
             is_road((0, 4, 1, 1), (0, 2, 1, -3), road((0, 4, 1, 1), (0, 2, 1, -3))),
             is_road((0, 4, 1, 1), (0, 2, 1, -3), [(0, 1)]), is_road((0, 4, 1, 1), (0, 4, 1, -1), [(0, 1)])],
            [None, True, True, False])


class SheetExamples(Case):

    def test_outline(self):
        self.assert_same(
            [square_side(BENT), corners(BENT), area(BENT)],
            [(-1, 1, 2),
             [((0, 0, 1), (0, 0, 1)), ((-1, 1, 2), (0, 0, 1)), ((2, 0, 1), (0, 0, 1)), ((3, 0, 1), (2, 0, 1)),
              ((1, 1, 2), (2, 0, 1)), ((1, 1, 2), (3, 1, 2)), ((1, 0, 1), (3, 1, 2)), ((1, 0, 1), (2, 0, 1))],
             (17, -1, 2)])
        self.assert_same(
            [gluings(BENT), square_side((0, 2, 1, -1)), area((0, 2, 1, -1))],
            [[(0, 5, ((1, 0, 1), (3, 1, 2))), (1, 3, ((1, 0, 1), (2, 0, 1))), (2, 7, ((-2, 0, 1), (0, 0, 1))),
              (4, 6, ((1, -1, 2), (0, 0, 1)))],
             (1, 0, 1), (3, 0, 1)])

    def test_points(self):
        self.assert_same(
            [point_of(BENT, ((3, 0, 1), (2, 0, 1))), point_of(BENT, ((5, 0, 2), (2, 0, 1))),
             point_of(BENT, ((14, 0, 5), (2, 0, 1))), point_of(BENT, ((5, 0, 2), (1, 0, 1))),
             is_point(BENT, ((1, 0, 1), (2, 0, 1))), piece_of(BENT, ((5, 0, 2), (2, 0, 1)))],
            [((0, 0, 1), (0, 0, 1)), ((5, 0, 2), (2, 0, 1)), ((9, 0, 5), (0, 0, 1)), ((1, 0, 2), (1, 0, 1)), False, 1])


class FlightExamples(Case):

    def test_flown(self):
        self.assert_same(
            [flown(BENT, ((1, 0, 1), (1, 0, 1)), ((1, 0, 1), (0, 0, 1))),
             flown(BENT, ((1, 0, 1), (1, 0, 1)), ((0, 0, 1), (3, 0, 1))),
             flown(BENT, ((1, 0, 1), (1, 0, 1)), ((0, 0, 1), (-3, 0, 1))),
             flown(BENT, ((1, 0, 1), (1, 0, 1)), ((1, 1, 2), (-2, 0, 1)))],
            [((2, 0, 1), (1, 0, 1)), None, ((2, 0, 1), (-1, 1, 2)), ((1, 0, 1), (1, 1, 2))])

    def test_at_the_corner(self):
        self.assert_same(
            [corner_at(BENT, ((1, 0, 1), (1, 0, 1)), ((0, 0, 1), (3, 0, 1))),
             corner_at(BENT, ((1, 0, 2), (1, 0, 1)), ((1, 0, 1), (2, 0, 1))),
             corner_at(BENT, ((1, 0, 1), (1, 0, 1)), ((-1, 0, 1), (-1, 0, 1))),
             corner_at(BENT, ((1, 0, 1), (1, 0, 1)), ((1, 1, 2), (-2, 0, 1)))],
            [(1, 0, 3), (1, 0, 2), (1, 0, 1), None])


class PathExamples(Case):

    def test_crossings_and_the_work_of_the_root(self):
        self.assert_same(
            [crossing([1, 0, 0, 0], [0, 1, 0, 0]), crossing([0, 2, 1, 0], [1, 0, 0, 3]),
             crossing([1, 2, 3, 4], [1, 2, 3, 4]), root_path((0, 1, 1, -1), [1, 0, 0, 0]),
             root_path((0, 2, 1, 0), [1, 2, 0, -1])],
            [1, 1, 0, [-1, 0, 1, 0], [0, -1, 1, 4]])


class TableExamples(Case):

    def test_of_deeds(self):
        self.assert_same(
            [deed_table(LEAST, (0, 1)), keeps_crossings(deed_table(LEAST, (0, 1))),
             led_path(deed_table(LEAST, (0, 1)), [1, 0, 0, 1])],
            [[[0, 1, 0, -1], [0, 0, 1, 0], [0, -1, 0, 0], [1, 0, 1, 0]], True, [-1, 0, 0, 1]])

    def test_of_words_and_back(self):
        self.assert_same(
            [word_table(LEAST, []), table_back(deed_table((0, 2, 1, 0), (0, 1))),
             keeps_crossings([[2, 0, 0, 0], [0, 1, 0, 0], [0, 0, 1, 0], [0, 0, 0, 1]])],
            [[[1, 0, 0, 0], [0, 1, 0, 0], [0, 0, 1, 0], [0, 0, 0, 1]],
             [[0, -1, 0, 1], [0, 0, -1, 0], [0, 1, 0, 0], [-1, 0, -1, 0]], False])

    def test_shears(self):
        self.assert_same(
            [shear_table(BENT, 3), shear_table(LOW, -1), back_shear(LOW, (0, 1)),
             [back_shear(LOW, deed) for deed in [(1, 2), (1, 3), (2, 3)]]],
            [[[1, 3, 0, 0], [0, 1, 0, 0], [0, 0, 1, 3], [0, 0, 0, 1]],
             [[1, -2, 0, 0], [0, 1, 0, 0], [0, 0, 1, -1], [0, 0, 0, 1]], 0, [-1, -1, -1]])


class RoundWordExamples(Case):

    def test_a_turn(self):
        self.assert_same(
            [round_numbers(LEAST, [(0, 1)]), round_kind(LEAST, [(0, 1)]), round_order(LEAST, [(0, 1)]),
             round_power(LEAST, [(0, 1)], 5)],
            [(0, 0), "turn", 4, [[0, 1, 0, -1], [0, 0, 1, 0], [0, -1, 0, 0], [1, 0, 1, 0]]])

    def test_tables_and_kinds(self):
        self.assert_same(
            [deed_table(LOW, (1, 2)), word_table(LOW, [(1, 2), (0, 1)]), round_numbers(LOW, [(1, 3)]),
             round_kind(LOW, [(1, 3)]), round_kind(LEAST, [(0, 1)] * 2)],
            [[[0, 1, 1, 0], [0, 0, 1, 1], [1, 0, 1, 1], [2, 1, 2, 2]],
             [[0, -1, 2, 1], [1, 0, 2, 1], [1, 1, 3, 1], [2, 2, 8, 3]], (9, 3), "stretch", "shear"])


class BandExamples(Case):

    def test_vectors_and_areas(self):
        self.assert_same(
            [path_vector(LOW, [1, 0, 0, 0]), path_vector(LOW, [0, 0, 1, 2]), around(LOW, (1, 2)),
             band_areas(LOW, (1, 2))],
            [((-3, 1, 2), (0, 0, 1)), ((2, 0, 1), (2, 0, 1)), (((2, 0, 1), (2, 0, 1)), ((1, 1, 2), (1, 1, 2))),
             ((5, -1, 1), (7, -1, 2))])

    def test_bands_of_points(self):
        self.assert_same(
            [[band_of(LOW, (1, 2), ((number, 0, 11), (1, 0, 7))) for number in range(1, 10)],
             band_of(LOW, (1, 2), ((1, 0, 7), (1, 0, 7)))],
            [[0, 1, 1, 1, 1, 1, 1, 0, 0], None])

    def test_changes(self):
        self.assert_same(
            [change(LOW, (1, 2)), changed(LOW, (1, 2), path_vector(LOW, [0, 0, 1, 2])), change(LEAST, (0, 1))],
            [(((3, 1, 4), (-1, 0, 1)), ((-3, -1, 2), (3, 1, 2))), ((-1, 1, 2), (0, 0, 1)),
             (((0, 0, 1), (-1, 1, 2)), ((-1, -1, 2), (0, 0, 1)))])


class FloorExamples(Case):

    def test_judged_and_led(self):
        self.assert_same(
            [is_floor(THREE), is_floor(LONG), is_floor(([1, 0, 2, 3], [2, 3, 0, 1])),
             is_floor(([1, 2, 3, 0, 5, 4], [4, 5, 2, 3, 0, 1])), named(([0, 2, 1], [1, 0, 2])), sheared(THREE),
             turned(THREE)],
            [True, True, False, False, ([0, 2, 1], [1, 0, 2]), ([1, 0, 2], [1, 2, 0]), ([2, 1, 0], [1, 0, 2])])

    def test_counted(self):
        self.assert_same(
            [floors_of(3), [how_many_floors(n) for n in [3, 4, 5, 6, 7, 1000]], [len(floors_of(n)) for n in [4, 5, 6]]],
            [[([0, 2, 1], [1, 0, 2]), ([0, 2, 1], [1, 2, 0]), ([1, 2, 0], [0, 2, 1])], [3, 9, 27, 36, 90, 269460000],
             [9, 27, 36]])

    def test_bands_and_cuttings(self):
        self.assert_same(
            [bands(THREE), bands(([0, 1, 3, 2], [1, 2, 0, 3])), cutting_of(THREE), bands(LONG), cutting_of(LONG),
             cutting_of(floor_with((1, 2, 2, -3))), how_many_with((1, 2, 2, -3)), how_many_with((0, 6, 1, -1))],
            [[(1, 1), (2, 1)], [(1, 2), (2, 1)], (0, 2, 1, -1), [(5, 1)], None, (1, 2, 2, -3), 1, 3])

    def test_half_turns_and_words(self):
        self.assert_same(
            [half_turn(THREE), middles(THREE), middles(LONG), floor_led(THREE, "st"),
             floors_joined(THREE, sheared(THREE)), named(sheared(THREE)) == named(THREE), floor_word(THREE, THREE)],
            [[0, 1, 2], (1, 1, 1, 3), (1, 1, 3, 1), ([1, 2, 0], [0, 2, 1]), True, False, ""])
