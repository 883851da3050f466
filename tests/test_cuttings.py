"""[9], [10], [11] Cuttings."""

from itertools import product
from math import gcd, isqrt

from slitsheets.cuttings import (
    cutting_number, cutting_numbered, cuttings, how_many_cuttings, how_many_with_last, is_cutting, measure_of,
    next_cutting)
from slitsheets.errors import InvalidCutting, InvalidMeasure, InvalidNumber, TooMany
from slitsheets.measures import is_measure
from plain import SEARCHED
from support import WRONG_CUTTINGS, Case, wrong_measures, wrong_numbers

CUTTINGS = [(0, 1, 1, -1), (0, 2, 1, 0), (1, 2, 2, -1), (0, 2, 1, -1), (0, 6, 1, 0), (2, 3, 3, -9)]
CUTTING = ("cutting", InvalidCutting, CUTTINGS, WRONG_CUTTINGS)
MEASURE = ("measure", InvalidMeasure, [17, 5, 8, 9, 1000, 2001], wrong_measures())


class Judged(Case):

    def test_is_cutting_against_its_words(self):
        for a, b, c, e in product(range(-1, 5), range(-1, 9), range(-1, 7), range(-7, 8)):
            meant = b >= 1 and c >= 1 and c + e < b and 0 <= a < gcd(b, c) and not [
                n for n in range(2, 9) if a % n == 0 and b % n == 0 and c % n == 0 and e % n == 0]
            self.assert_same(is_cutting((a, b, c, e)), meant)

    def test_is_cutting_takes_any_value(self):
        self.assert_judged_false(WRONG_CUTTINGS, is_cutting)
        self.assert_same(is_cutting(value=(0, 1, 1, -1)), True)

    def test_great_cuttings(self):
        great = 10 ** 29
        self.assert_same(is_cutting((0, great, 1, great - 2)), True)
        self.assert_same(is_cutting((0, great, 1, great - 1)), False)
        self.assert_same(is_cutting((great - 1, great, great, -1)), True)
        self.assert_same(is_cutting((great, great, great, -1)), False)
        self.assert_same(is_cutting((great // 2, great, great, -great)), False)
        self.assert_same(measure_of((0, great, 1, great - 2)), (great - 2) ** 2 + 4 * great)
        self.assert_same(measure_of((great - 1, great, great, -1)), 4 * great * great + 1)

    def test_measure_of_is_a_measure(self):
        for measure, told in SEARCHED.items():
            for cutting in told:
                self.assert_same(measure_of(cutting), measure)
                self.assertTrue(is_measure(measure))
        self.assertTrue(is_measure(measure_of((10 ** 29 - 1, 10 ** 29, 10 ** 29, -1))))

    def test_wrong_cuttings_are_refused(self):
        for function in (measure_of, cutting_number, next_cutting):
            self.assert_refusals(function, CUTTING)
            self.assert_taken(function, CUTTING)


class Listed(Case):

    def test_the_lists_against_a_plain_search(self):
        self.assertEqual(len(SEARCHED), 78)
        for measure, meant in SEARCHED.items():
            self.assert_same(cuttings(measure), meant)
            self.assert_same(how_many_cuttings(measure), len(meant))
            self.assertGreaterEqual(len(meant), 1)

    def test_counts_by_the_last_number_against_a_plain_search(self):
        for measure, told in SEARCHED.items():
            for e in range(-20, 21):
                meant = len([cutting for cutting in told if cutting[3] == e])
                self.assert_same(how_many_with_last(measure, e), meant)

    def test_counts_by_the_last_number_sum_up(self):
        for measure in [*range(5, 400), 2000, 10000, 19881, 19984, 19997, 20000]:
            if is_measure(measure):
                last = isqrt(measure) + 2
                counts = [how_many_with_last(measure, e) for e in range(-last, last + 1)]
                self.assert_same(sum(counts), how_many_cuttings(measure))

    def test_half_as_many_as_without_the_condition_on_sums(self):
        for measure, told in SEARCHED.items():
            if isqrt(measure) ** 2 != measure:
                swapped = [(a, c, b, -e) for a, b, c, e in told]
                self.assertEqual([cutting for cutting in swapped if is_cutting(cutting)], [])

    def test_last_numbers_that_do_not_occur(self):
        for e in (-5, 5, 4, -4, 6, 10 ** 29, -(10 ** 29), 10 ** 29 + 1, 0, 2):
            self.assert_same(how_many_with_last(17, e), 0)
        self.assert_same([how_many_with_last(16, e) for e in (-4, -2, 0, 2, 4)], [0, 1, 1, 0, 0])

    def test_greater_lists_hold_together(self):
        for measure in (1000, 2001, 4900, 9801, 10000, 19996, 19997, 20000):
            told = self.assert_within(4, cuttings, measure)
            self.assert_same(told, sorted(set(told)))
            self.assertEqual([measure_of(cutting) for cutting in told], [measure] * len(told))
            self.assert_same(self.assert_within(4, how_many_cuttings, measure), len(told))

    def test_greater_lists_against_a_plainer_search(self):
        for measure in (1009, 2304, 4900, 9801, 9800):
            found = []
            for e in range(-isqrt(measure), isqrt(measure) + 1):
                for b in range(1, (measure - e * e) // 4 + 1):
                    c = (measure - e * e) // (4 * b)
                    if c >= 1 and e * e + 4 * b * c == measure and c + e < b:
                        found += [(a, b, c, e) for a in range(gcd(b, c)) if gcd(a, b, c, e) == 1]
            self.assert_same(cuttings(measure), sorted(found))

    def test_too_many(self):
        for measure, many in ((16041, 2000), (17025, 2000), (17505, 2000), (16273, 2002), (19761, 2004), (19825, 3636)):
            self.assert_same(how_many_cuttings(measure), many)
            if many <= 2000:
                self.assertEqual(len(cuttings(measure)), many)
            else:
                with self.assertRaises(TooMany) as caught:
                    cuttings(measure)
                self.assert_same(caught.exception.value, many)

    def test_each_list_is_a_new_one(self):
        told = cuttings(17)
        self.assertIsNot(cuttings(17), told)
        told.clear()
        self.assertEqual(len(cuttings(17)), 6)
        self.assert_same(cutting_numbered(17, 5), (1, 2, 2, -1))

    def test_wrong_arguments(self):
        last = ("e", InvalidNumber, [0, 1, -3, 10 ** 29], wrong_numbers())
        for function in (how_many_cuttings, cuttings):
            self.assert_refusals(function, MEASURE)
            self.assert_taken(function, MEASURE)
        self.assert_refusals(how_many_with_last, MEASURE, last)
        self.assert_taken(how_many_with_last, MEASURE, last)


class Numbered(Case):

    def test_there_and_back(self):
        for measure in [*SEARCHED, 1000, 2001]:
            told = cuttings(measure)
            for number, cutting in enumerate(told):
                self.assert_same(cutting_number(cutting), number)
                self.assert_same(cutting_numbered(measure, number), cutting)
            self.assert_same([next_cutting(cutting) for cutting in told], told[1:] + [None])

    def test_the_last_one_and_the_one_beyond(self):
        for measure in [*SEARCHED, 16273, 19825, 20000]:
            many = how_many_cuttings(measure)
            last = cutting_numbered(measure, many - 1)
            self.assert_same(cutting_number(last), many - 1)
            self.assertIsNone(next_cutting(last))
            for number in (many, many + 1, -1, -many, 10 ** 29, -(10 ** 29)):
                self.assert_refused(InvalidNumber, number, cutting_numbered, measure, number)

    def test_where_no_list_is_told(self):
        for measure in (19825, 16273):
            many = how_many_cuttings(measure)
            self.assertGreater(many, 2000)
            cutting = cutting_numbered(measure, 0)
            for number in range(40):
                self.assert_same(self.assert_within(2, cutting_numbered, measure, number), cutting)
                self.assert_same(self.assert_within(2, cutting_number, cutting), number)
                cutting = self.assert_within(2, next_cutting, cutting)
            for number in range(0, many, 101):
                cutting = cutting_numbered(measure, number)
                self.assertTrue(is_cutting(cutting))
                self.assert_same(measure_of(cutting), measure)
                self.assert_same(cutting_number(cutting), number)
                following = None if number + 1 == many else cutting_numbered(measure, number + 1)
                self.assert_same(next_cutting(cutting), following)

    def test_wrong_arguments(self):
        numbers = wrong_numbers() + [-1, 6, 7, 10 ** 29]
        self.assert_refusals(cutting_numbered, ("measure", InvalidMeasure, [17], wrong_measures()),
                             ("number", InvalidNumber, [0, 5], numbers))
        self.assert_taken(cutting_numbered, ("measure", InvalidMeasure, [17], wrong_measures()),
                          ("number", InvalidNumber, [0, 5], numbers))
