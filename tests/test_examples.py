"""The examples of DOC.md from root numbers to the heart, value by value and kind by kind ([6]: test_measures)."""

from slitsheets.cuttings import (
    cutting_number, cutting_numbered, cuttings, how_many_cuttings, how_many_with_last, is_cutting, measure_of,
    next_cutting)
from slitsheets.deeds import (
    back, deeds, deeds_to, done, how_many_deeds, is_deed, is_word, led, led_back, mirror, mirror_deed, passed)
from slitsheets.heart import (
    heart_distance, heart_lots, heart_number, heart_numbered, heart_steps, how_many_heart, is_heart, word_to_heart)
from slitsheets.lots import is_closed, is_lot, joined, lot_numbered, lot_sizes, lots, next_in_lot, sign
from slitsheets.rootnumbers import (
    is_root, root_floor, root_less, root_number, root_over, root_plus, root_side, root_times)
from slitsheets.ways import (
    farthest, how_far, how_many_far, how_many_words, is_shortest, shortest_word, word_number, word_numbered)
from support import Case

LOW, GREAT, FAR = (0, 2, 1, -3), (0, 10 ** 28, 1, 1), (3, 10 ** 13)


class RootNumberExamples(Case):

    def test_made_and_judged(self):
        self.assert_same(
            [root_number(5, 2, 2, 4), root_number(9, 1, 1, -2),
             is_root(5, (1, 1, 2)), is_root(9, (1, 1, 2)), is_root(5, (2, 2, 4))],
            [(1, 1, 2), (-2, 0, 1), True, False, False])

    def test_reckoned(self):
        self.assert_same(
            [root_times(5, (1, 1, 2), (1, 1, 2)), root_over(5, (1, 0, 1), (1, 1, 2)),
             root_plus(5, (1, 1, 2), (1, -1, 2)), root_less(8, (0, 1, 2), (1, 0, 1))],
            [(3, 1, 2), (-1, 1, 2), (1, 0, 1), (-2, 1, 2)])

    def test_side_and_floor(self):
        self.assert_same(
            [root_side(5, (-2, 1, 1)), root_side(8, (-3, 1, 1)),
             root_floor(5, (1, 1, 2)), root_floor(5, (1, -1, 2)), root_floor(8, (-3, 1, 1))],
            [1, -1, 1, -1, -1])


class CuttingExamples(Case):

    def test_judged_and_measured(self):
        self.assert_same(
            [is_cutting((0, 1, 1, -1)), is_cutting((1, 2, 2, -1)), is_cutting((0, 2, 2, -2)),
             is_cutting((0, 1, 1, 0)), is_cutting([0, 1, 1, -1]), measure_of((1, 2, 2, -1)), measure_of((0, 6, 1, 0))],
            [True, True, False, False, False, 17, 24])

    def test_listed_and_counted(self):
        self.assert_same(
            [cuttings(5), cuttings(9), cuttings(8), cuttings(17),
             [how_many_cuttings(measure) for measure in [12, 13, 16, 20, 21, 24, 25, 45]]],
            [[(0, 1, 1, -1)], [(0, 2, 1, -1)], [(0, 1, 1, -2), (0, 2, 1, 0)],
             [(0, 1, 2, -3), (0, 2, 1, -3), (0, 2, 2, -1), (0, 4, 1, -1), (0, 4, 1, 1), (1, 2, 2, -1)],
             [3, 3, 2, 5, 4, 6, 6, 8]])

    def test_numbered(self):
        self.assert_same(
            [how_many_with_last(17, -1), how_many_with_last(17, 3), how_many_with_last(17, 0),
             cutting_number((0, 4, 1, 1)), cutting_numbered(17, 2), next_cutting((0, 4, 1, 1)),
             next_cutting((1, 2, 2, -1)), how_many_cuttings(2000)],
            [3, 0, 0, 4, (0, 2, 2, -1), (1, 2, 2, -1), None, 224])


class DeedExamples(Case):

    def test_all_deeds_of_a_cutting(self):
        self.assert_same(
            [deeds(LOW), how_many_deeds(LOW), [done(LOW, deed) for deed in deeds(LOW)],
             [back(LOW, deed) for deed in deeds(LOW)]],
            [[(0, 1), (1, 2), (1, 3), (2, 3)], 4, [(0, 4, 1, 1), (1, 2, 2, -1), (0, 2, 1, -3), (0, 2, 1, -3)],
             [(0, 1), (0, 1), (1, 3), (2, 3)]])
        self.assert_same(deeds((0, 1, 1, -4)), [(0, 1), (1, 2), (1, 3), (1, 4), (2, 3), (3, 4)])

    def test_judged_and_great(self):
        self.assert_same(
            [is_deed(LOW, (2, 2)), is_deed(LOW, (3, 3)), is_deed(GREAT, FAR), done(GREAT, FAR), back(GREAT, FAR),
             done((0, 989999999999999, 10 ** 13, -20000000000001), (6666666666667, 1)) == GREAT],
            [False, False, True, (0, 989999999999999, 10000000000000, -20000000000001), (6666666666667, 1), True])

    def test_words(self):
        self.assert_same(
            [passed(LOW, [(1, 2), (0, 1), (1, 3)]), led(LOW, [(1, 2)]), led_back(LOW, [(1, 2), (0, 1), (1, 3)]),
             is_word(LOW, [(1, 2), (1, 2)])],
            [[(0, 2, 1, -3), (1, 2, 2, -1), (0, 2, 1, -3), (0, 2, 1, -3)], (1, 2, 2, -1), [(1, 3), (1, 2), (0, 1)],
             False])

    def test_to_another_cutting(self):
        self.assert_same(
            [deeds_to(LOW, LOW), deeds_to(LOW, (1, 2, 2, -1)), deeds_to((1, 2, 2, -1), LOW),
             deeds_to(LOW, (0, 1, 2, -3)), [done((1, 2, 4, -9), deed) for deed in deeds((1, 2, 4, -9))]],
            [[(1, 3), (2, 3)], [(1, 2)], [(0, 1)], [], [(0, 28, 1, 1), (0, 28, 1, 1), (0, 4, 4, -7), (0, 2, 8, -7)]])

    def test_mirrors(self):
        self.assert_same(
            [mirror((1, 3, 3, -9)), mirror(LOW), mirror_deed((0, 3, 1, -5), (1, 3)), done((0, 3, 1, -5), (1, 3)),
             done((0, 3, 1, -5), (2, 3)), mirror_deed((1, 2, 4, -9), (0, 1))],
            [(2, 3, 3, -9), (0, 2, 1, -3), (2, 3), (2, 3, 3, -1), (1, 3, 3, -1), (1, 1)])


class LotExamples(Case):

    def test_listed(self):
        self.assert_same(lots(17), [[(0, 1, 2, -3), (0, 2, 2, -1), (0, 4, 1, -1)],
                                    [(0, 2, 1, -3), (0, 4, 1, 1), (1, 2, 2, -1)]])

    def test_signs_and_sizes(self):
        self.assert_same(
            [sign((0, 1, 2, -3)), sign((0, 2, 1, -3)), sign((0, 2, 1, -1)), lot_sizes(9), lot_sizes(25), lot_sizes(49)],
            [1, 0, None, [1], [4, 2], [8, 5]])

    def test_joined(self):
        self.assert_same(
            [joined((0, 4, 1, -1), (0, 4, 1, 1)), joined((0, 10 ** 12, 1, 1), (0, 10 ** 12 - 2, 1, 3)),
             joined((0, 2, 1, 0), (0, 1, 1, -2))],
            [False, False, True])

    def test_numbered_and_judged(self):
        self.assert_same(
            [next_in_lot((0, 2, 1, -3)), lot_numbered((1, 2, 2, -1), 0), is_lot([(0, 1, 2, -3)]),
             is_closed([(0, 2, 1, -3), (0, 4, 1, 1), (1, 2, 2, -1)])],
            [(0, 4, 1, 1), (0, 2, 1, -3), False, True])


class WayExamples(Case):

    def test_shortest(self):
        self.assert_same(
            [shortest_word((0, 1, 6, -6), (0, 15, 1, 0)), how_far((0, 15, 1, 0), (0, 1, 6, -6)),
             shortest_word((0, 4, 1, -1), (0, 4, 1, 1))],
            [[(3, 1), (1, 1)], 2, None])

    def test_far(self):
        self.assert_same(
            [farthest((0, 2, 2, -1)), how_many_far((0, 2, 2, -1)), farthest((0, 15, 1, 0))],
            [(2, (0, 4, 1, -1)), [1, 1, 1], (3, (0, 7, 2, 2))])

    def test_numbered(self):
        self.assert_same(
            [is_shortest((0, 2, 1, -3), (0, 4, 1, 1), [(1, 3), (0, 1)]),
             how_many_words((0, 1, 2, -3), (0, 4, 1, -1), 3), word_numbered((0, 1, 2, -3), (0, 4, 1, -1), 3, 1)],
            [False, 3, [(1, 1), (0, 1), (0, 1)]])
        self.assert_same(
            [word_number((0, 1, 2, -3), [(1, 1), (0, 1), (0, 1)]), how_many_words((0, 4, 1, -1), (0, 1, 2, -3), 60)],
            [1, 962574665336804])


class HeartExamples(Case):

    def test_numbered(self):
        self.assert_same(
            [is_heart((0, 1, 1, -1)), is_heart((0, 2, 2, -1)), how_many_heart(5), how_many_heart(17),
             [heart_numbered(17, number) for number in range(how_many_heart(17))], heart_number((0, 4, 1, -1))],
            [True, False, 1, 3, [(0, 2, 1, -3), (0, 4, 1, -1), (0, 4, 1, 1)], 1])

    def test_steps_and_parts(self):
        self.assert_same(
            [heart_steps((0, 4, 1, 1)), heart_steps((0, 4, 1, -1)), heart_steps((0, 2, 1, -3)), heart_lots(17),
             [len(heart_lots(measure)) for measure in [5, 8, 9, 33, 49, 73]]],
            [[(0, 2, 1, -3)], [(0, 4, 1, -1)], [(0, 2, 1, -3), (0, 4, 1, 1)],
             [[(0, 2, 1, -3), (0, 4, 1, 1)], [(0, 4, 1, -1)]], [1, 1, 1, 2, 3, 3]])

    def test_distances(self):
        self.assert_same(
            [heart_distance((0, 4, 1, 1)), heart_distance((1, 2, 2, -1)), heart_distance((0, 2, 2, -1)),
             word_to_heart((0, 4, 1, 1))],
            [0, 1, 2, []])
