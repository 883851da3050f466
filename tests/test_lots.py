"""[18], [19], [20] Signs and lots."""

from itertools import combinations
from math import gcd, isqrt

from slitsheets.cuttings import cuttings, how_many_cuttings, is_cutting, measure_of
from slitsheets.deeds import back, deeds, done, led
from slitsheets.errors import InvalidCutting, InvalidMeasure, InvalidNumber
from slitsheets.lots import (
    is_closed, is_lot, joined, lot_number, lot_numbered, lot_of, lot_sizes, lots, next_in_lot, sign)
from plain import SEARCHED, distances, graph, measures
from support import WRONG_CUTTINGS, Case, any_values, same, wrong_measures, wrong_numbers

CUTTINGS = [(0, 2, 1, -3), (0, 1, 1, -1), (1, 2, 2, -1), (0, 2, 1, -1), (0, 1, 1, -2), (0, 4, 1, -1)]
CUTTING = ("cutting", InvalidCutting, CUTTINGS, WRONG_CUTTINGS)
MEASURE = ("measure", InvalidMeasure, [17, 5, 8, 9, 25, 1000], wrong_measures())
FIRST_OF_17 = [(0, 1, 2, -3), (0, 2, 2, -1), (0, 4, 1, -1)]
SECOND_OF_17 = [(0, 2, 1, -3), (0, 4, 1, 1), (1, 2, 2, -1)]
NO_LISTS_OF_CUTTINGS = any_values() + [
    0, (0, 2, 1, -1), tuple(FIRST_OF_17), [FIRST_OF_17], {"a": FIRST_OF_17}, FIRST_OF_17 + [None], [None] + FIRST_OF_17,
    [(0, 1, 2, -3), None, (0, 4, 1, -1)], [(0, 1, 2, -3), [0, 2, 2, -1], (0, 4, 1, -1)],
    [(False, 1, 2, -3), (0, 2, 2, -1), (0, 4, 1, -1)], [(0, 1, 2, -3), (0, 2, 2, -1), (0, 4, True, -1)],
    [(0, True, 2, -3), (0, 2, 2, -1), (0, 4, 1, -1)], [(0, 1, 2, -3), (0, 2, 2, -1, 0), (0, 4, 1, -1)],
    [(0, 2, True, -1)], [(False, 2, 1, -1)], [(0, True, 1, -1)], [(0, 1, 1, -1), ()], [(0, 1, 1, 0)], [(0, 2, 2, -2)],
    # Of 17, 5 and 8 together; backwards; one twice.
    FIRST_OF_17 + [(0, 1, 1, -1)], [(0, 1, 1, -2), (0, 1, 1, -1), (0, 2, 1, 0)], [(0, 1, 1, -1), (0, 2, 1, -1)],
    FIRST_OF_17[::-1], SECOND_OF_17[::-1], FIRST_OF_17 * 2, [(0, 1, 1, -1)] * 2, [(0, 2, 1, -1)] * 2,
    FIRST_OF_17 + FIRST_OF_17[2:], FIRST_OF_17[:1] + FIRST_OF_17, [(0, 2, 1, 0), (0, 1, 1, -2)]]


def plain_sign(cutting):
    """The sign by its words, f by trying."""
    a, b, c, e = cutting
    measure = e * e + 4 * b * c
    if measure % 8 != 1 or measure == 9:
        return None
    f = [number for number in range(1, isqrt(measure) + 1) if measure % (number * number) == 0][-1]
    return ((e - f) // 2 + (c + 1) * (a + b + a * b)) % 2


def plain_lots(measure):
    """The lots by the deeds alone, which lead from one cutting to all joined ones."""
    steps = graph(measure)
    found = []
    for cutting in steps:
        if not [lot for lot in found if cutting in lot]:
            found.append(sorted(distances(steps, [cutting])))
    return found


LOTS = {measure: plain_lots(measure) for measure in SEARCHED}


class Signs(Case):

    def test_against_the_words(self):
        for measure in measures(1300):
            for cutting in cuttings(measure)[::1 if measure < 300 else 7]:
                self.assert_same(sign(cutting), plain_sign(cutting))

    def test_there_are_none_but_for_measures_that_leave_1_by_8_and_9_has_none(self):
        for measure in measures(300):
            told = [sign(cutting) for cutting in cuttings(measure)]
            if measure % 8 == 1 and measure != 9:
                self.assert_same(sorted(set(told)), [0, 1])
            else:
                self.assert_same(told, [None] * len(told))

    def test_deeds_keep_it(self):
        for measure in [*SEARCHED, 225, 441, 1225, 2001 - 8]:
            for cutting in cuttings(measure)[:60]:
                for deed in deeds(cutting)[:40]:
                    self.assert_same(sign(done(cutting, deed)), sign(cutting))

    def test_great_squares_and_measures_without_them(self):
        for f, rest in ((999983, 1), (999999, 1), (3 ** 12, 1), (3 ** 5 * 5 ** 2 * 7 ** 2, 1), (239999, 17),
                        (45 ** 3, 33), (99991, 97), (1, 999999999913), (1, 10 ** 12 - 7), (3, 10 ** 11 + 1),
                        (21, 10 ** 9 + 17)):
            measure = f * f * rest
            self.assertEqual(measure % 8, 1)
            self.assertLessEqual(measure, 10 ** 12)
            greatest = [number for number in range(isqrt(measure), 0, -1) if measure % (number * number) == 0][0]
            seen = []
            for e in (1, -1, 3, -3, 5, 7, -9, 11, isqrt(measure) // 2 * 2 - 3, 1 - isqrt(measure) // 2 * 2):
                both = (measure - e * e) // 4
                for c in (1, 2, 3, 4, 6):
                    if both % c == 0 and is_cutting((0, both // c, c, e)):
                        meant = ((e - greatest) // 2 + (c + 1) * (both // c)) % 2
                        self.assert_same(self.assert_within(2, sign, (0, both // c, c, e)), meant)
                        seen.append(meant)
            self.assertEqual(sorted(set(seen)), [0, 1])

    def test_wrong_cuttings(self):
        self.assert_refusals(sign, CUTTING)
        self.assert_taken(sign, CUTTING)


class Joined(Case):

    def test_just_those_that_words_lead_to_one_another(self):
        for measure, told in LOTS.items():
            for lot in told:
                for one in lot:
                    for other in SEARCHED[measure]:
                        self.assert_same(joined(one, other), other in lot)
                        self.assertEqual(other in lot, plain_sign(one) == plain_sign(other))

    def test_all_measures(self):
        great = 10 ** 29
        for one in ((0, great, 1, 1), (0, great // 2, 1, -1), (0, 3 ** 60, 2 ** 90, -(10 ** 28) + 1),
                    (1, 6, 4, -great + 1), (great - 1, great, great, -1), (5 * 10 ** 27, great, 10 ** 28, 1 - great),
                    (0, 1, great, -great)):
            self.assertTrue(is_cutting(one), one)
            way = [one]
            for at in range(12):
                way.append(done(way[-1], (at % 2, 1) if way[-1][2] > gcd(*way[-1][1:3]) else (0, 1)))
            for other in way:
                self.assert_same(self.assert_within(1, joined, one, other), True)
                self.assert_same(joined(other, one), True)
        for one, other, meant in (
                ((0, great, 1, 1), (0, great - 2, 1, 3), False), ((0, great, 1, 1), (0, great - 6, 1, 5), True),
                ((0, great, 1, 1), (0, great, 1, -1), False), ((0, great, 1, 1), (0, great // 4, 4, 1), True),
                ((0, great + 1, 1, 1), (0, great + 1, 1, -1), True), ((0, great, 1, 0), (0, great - 1, 1, 2), True)):
            self.assertEqual(measure_of(one), measure_of(other))
            self.assert_same(self.assert_within(1, joined, one, other), meant)
            self.assert_same(joined(one=other, other=one), meant)

    def test_wrong_arguments(self):
        places = [(name, InvalidCutting, [(0, 4, 1, -1), (0, 4, 1, 1), (0, 2, 1, -3)], WRONG_CUTTINGS)
                  for name in ("one", "other")]
        self.assert_refusals(joined, *places)
        self.assert_taken(joined, *places)
        self.assert_unlike(joined)


class Lots(Case):

    def test_against_a_plain_search(self):
        for measure, meant in LOTS.items():
            self.assert_same(lots(measure), meant)
            self.assert_same(lot_sizes(measure), [len(lot) for lot in meant])
            self.assertEqual(len(meant), 2 if measure % 8 == 1 and measure != 9 else 1)
            for lot in meant:
                for number, cutting in enumerate(lot):
                    self.assert_same(lot_of(cutting), lot)
                    self.assert_same(lot_number(cutting), number)
                    self.assert_same(next_in_lot(cutting), [*lot, None][number + 1])
                    for other, meant_there in enumerate(lot):
                        self.assert_same(lot_numbered(cutting, other), meant_there)
                self.assert_same(is_lot(lot), True)

    def test_greater_measures(self):
        for measure in (1000, 1001, 1009, 1681, 1764, 1936, 1993, 1996, 1997, 2000):
            told = self.assert_within(4, lots, measure)
            self.assertEqual(len(told), 2 if measure % 8 == 1 else 1)
            self.assert_same(sorted(cutting for lot in told for cutting in lot), cuttings(measure))
            self.assert_same(told[0][0], cuttings(measure)[0])
            self.assert_same(self.assert_within(4, lot_sizes, measure), [len(lot) for lot in told])
            for lot in told:
                self.assertEqual(lot, sorted(set(lot)))
                self.assertEqual(len({plain_sign(cutting) for cutting in lot}), 1)
                for number in range(0, len(lot), 17):
                    self.assert_same(self.assert_within(4, lot_of, lot[number]), lot)
                    self.assert_same(self.assert_within(4, lot_number, lot[number]), number)
                    self.assert_same(self.assert_within(4, lot_numbered, lot[-1], number), lot[number])
                    self.assert_same(self.assert_within(4, next_in_lot, lot[number]), [*lot, None][number + 1])
                self.assert_same(self.assert_within(4, is_lot, lot), True)
                self.assert_same(is_lot(lot[1:]), False)
                self.assert_same(is_lot(lot[:-1]), False)
                self.assert_same(is_lot(lot[:5] + lot[6:]), False)

    def test_nothing_is_too_many_somewhat_beyond_the_limit(self):
        self.assert_same(lot_sizes(16276), [how_many_cuttings(16276)])
        self.assert_same(sum(lot_sizes(16273)), 2002)

    def test_each_list_is_a_new_one(self):
        told = lots(17)
        told[0].append(None)
        told.append(None)
        self.assert_same(lots(17), [FIRST_OF_17, SECOND_OF_17])
        told = lot_of((0, 2, 2, -1))
        told.clear()
        self.assert_same(lot_of((0, 2, 2, -1)), FIRST_OF_17)
        told = lot_sizes(17)
        told.append(9)
        self.assert_same(lot_sizes(17), [3, 3])

    def test_wrong_measures(self):
        for function in (lots, lot_sizes):
            self.assert_refusals(function, MEASURE)
            self.assert_taken(function, MEASURE)

    def test_wrong_cuttings(self):
        for function in (lot_of, lot_number, next_in_lot):
            self.assert_refusals(function, CUTTING)
            self.assert_taken(function, CUTTING)

    def test_wrong_numbers(self):
        cutting = ("cutting", InvalidCutting, [(0, 2, 1, -3), (0, 4, 1, -1)], WRONG_CUTTINGS)
        number = ("number", InvalidNumber, [0, 1, 2], wrong_numbers() + [-1, -3, 3, 4, 6, 10 ** 29, -(10 ** 29)])
        self.assert_refusals(lot_numbered, cutting, number)
        self.assert_taken(lot_numbered, cutting, number)
        for lot in LOTS[25]:
            for number in (len(lot), len(lot) + 1, how_many_cuttings(25), -1, -len(lot)):
                self.assert_refused(InvalidNumber, number, lot_numbered, lot[0], number)


class JudgedLots(Case):

    def test_lists_that_are_no_lot(self):
        self.assert_judged_false(NO_LISTS_OF_CUTTINGS, is_lot)
        self.assert_judged_false([FIRST_OF_17 + SECOND_OF_17, sorted(FIRST_OF_17 + SECOND_OF_17)], is_lot)
        self.assert_same(is_lot(value=SECOND_OF_17), True)

    def test_all_lists_in_order_of_small_measures(self):
        for measure in measures(33):
            steps = graph(measure)
            for many in range(len(steps) + 1):
                for value in combinations(steps, many):
                    closed = many > 0 and all(other in value for one in value for _, other in steps[one])
                    self.assert_same(is_closed(list(value)), closed)
                    self.assert_same(is_lot(list(value)), list(value) in LOTS[measure])

    def test_closed_lists_are_lots_and_lots_together(self):
        for measure in list(SEARCHED)[::3] + [113, 153]:
            for lot in LOTS[measure]:
                self.assert_same(is_closed(lot), True)
                for at in range(len(lot)):
                    self.assert_same(is_closed(lot[:at] + lot[at + 1:]), False)
                others = [cutting for cutting in SEARCHED[measure] if cutting not in lot]
                for cutting in others[::5]:
                    self.assert_same(is_closed(sorted([*lot, cutting])), len(others) == 1)
            self.assert_same(is_closed(SEARCHED[measure]), True)
            self.assert_same(is_closed(SEARCHED[measure] + SEARCHED[12]), False)

    def test_lists_that_are_not_closed(self):
        self.assert_judged_false(NO_LISTS_OF_CUTTINGS, is_closed)
        self.assert_judged_false([sorted(SECOND_OF_17 + FIRST_OF_17[:1]), SECOND_OF_17 + FIRST_OF_17], is_closed)
        # Closed each by itself and in order, yet of two measures.
        self.assert_judged_false([[(0, 1, 1, -2), (0, 1, 1, -1), (0, 2, 1, 0)]], is_closed)
        self.assert_judged_false([[(0, 1, 1, -1), (0, 2, 1, -1)]], is_closed)
        self.assert_same(is_closed(value=[(0, 2, 1, -1)]), True)

    def test_greater_measures(self):
        for measure in (441, 529, 577, 593, 597, 600):
            for lot in lots(measure):
                self.assert_same(self.assert_within(4, is_closed, lot), True)
                self.assert_same(self.assert_within(4, is_closed, lot[:-1]), False)
                self.assert_same(self.assert_within(4, is_closed, lot[1:]), False)
            self.assert_same(self.assert_within(4, is_closed, cuttings(measure)), True)

    def test_a_changed_list_is_looked_at_anew(self):
        value = list(FIRST_OF_17)
        self.assertEqual([is_lot(value), is_closed(value)], [True, True])
        gone = value.pop()
        self.assertEqual([is_lot(value), is_closed(value)], [False, False])
        value.append(gone)
        self.assertEqual([is_lot(value), is_closed(value)], [True, True])
        value[:] = [(0, 2, 1, -1)]
        self.assertEqual([is_lot(value), is_closed(value)], [True, True])

    def test_equal_calls_bring_equal_results_whatever_lies_between(self):
        calls = [(lots, 17), (lot_of, (0, 2, 1, -3)), (sign, (0, 2, 1, -3)), (lot_sizes, 25), (is_lot, FIRST_OF_17),
                 (joined, (0, 4, 1, -1), (0, 4, 1, 1)), (is_closed, SECOND_OF_17), (next_in_lot, (0, 2, 1, -3))]
        first = [function(*arguments) for function, *arguments in calls]
        for function, *arguments in reversed(calls):
            function(*arguments)
        self.assertEqual(led((0, 2, 1, -3), [back((1, 2, 2, -1), (0, 1))]), (1, 2, 2, -1))
        self.assertTrue(same(first, [function(*arguments) for function, *arguments in calls]))
