"""[6] Measures."""

from slitsheets.errors import InvalidMeasure
from slitsheets.measures import factor, is_measure, whole_root
from support import Case, wrong_measures

MEASURE = ("measure", InvalidMeasure, [5, 8, 9, 12, 10 ** 11, 10 ** 12 - 4], wrong_measures())


def searched_factor(measure):
    fitting = [f for f in range(1, measure + 1)
               if f * f <= measure and measure % (f * f) == 0 and measure // (f * f) % 4 in (0, 1)]
    return max(fitting)


class Measures(Case):

    def test_examples(self):
        self.assert_same(
            [is_measure(5), is_measure(6), is_measure(4), is_measure(True),
             whole_root(20), factor(12), factor(16), factor(45), factor(8)],
            [True, False, False, False, 4, 1, 4, 3, 1])

    def test_the_measures_below_a_hundred(self):
        meant = [number for number in range(5, 100) if number % 4 == 0 or number % 4 == 1]
        self.assert_same([number for number in range(-100, 100) if is_measure(number)], meant)
        self.assertEqual(meant[:6], [5, 8, 9, 12, 13, 16])

    def test_is_measure_tells_booleans_of_great_numbers(self):
        great = [10 ** 29, 10 ** 29 + 1, 10 ** 29 + 2, 10 ** 29 + 3, 10 ** 30 - 1, 10 ** 30 - 4, -(10 ** 29), 10 ** 60]
        self.assert_same([is_measure(number) for number in great],
                         [True, True, False, False, False, True, False, True])

    def test_is_measure_takes_any_value(self):
        self.assert_judged_false(wrong_measures(), is_measure)
        self.assert_same(is_measure(value=5), True)

    def test_wrong_measures_are_refused(self):
        for function in (whole_root, factor):
            self.assert_refusals(function, MEASURE)
            self.assert_taken(function, MEASURE)

    def test_whole_root_of_small_measures(self):
        for measure in range(5, 3000):
            if is_measure(measure):
                root = whole_root(measure)
                self.assertIs(type(root), int)
                self.assertTrue(root * root <= measure < (root + 1) * (root + 1), measure)

    def test_whole_root_next_to_great_squares(self):
        for root in (10 ** 14, 10 ** 14 + 1, 123456789012345, 999999999999999, 316227766016836):
            for measure in range(root * root - 4, root * root + 5):
                if is_measure(measure):
                    meant = root if measure >= root * root else root - 1
                    self.assert_same(whole_root(measure), meant)
        self.assert_same(whole_root(10 ** 30 - 4), 10 ** 15 - 1)

    def test_factor_against_a_plain_search(self):
        for measure in range(5, 1500):
            if is_measure(measure):
                self.assert_same(factor(measure), searched_factor(measure))

    def test_factor_of_powers_of_two_times_all_rests(self):
        # 2 and 3 are no rests of a quotient: then one factor 2 less is taken.
        for power in range(1, 18):
            for odd in (1, 3, 5, 7, 11):
                self.assert_same(factor(4 * 4 ** power * odd), 2 ** power * (1 if odd % 4 == 3 else 2))
                self.assert_same(factor(8 * 4 ** power * odd), 2 ** power)

    def test_factor_up_to_twelve_figures(self):
        # 10 ** 12 - 4 is 12 * 31 * 127 ** 2 * 166667; no square but 1 divides 249999999997; the others are primes.
        meant = {
            999999999989: 1, 999979 * 999983: 1, 4 * 249999999997: 2, 4 * 999983: 1,
            999983 ** 2: 999983, 999999 ** 2: 999999, 4 * 499979 ** 2: 2 * 499979,
            5 * 9973 ** 2 * 9: 3 * 9973, 9973 ** 2 * 97 ** 2: 9973 * 97, 9973 ** 3: 9973,
            12 * 288661 ** 2: 288661, 8 * 353501 ** 2: 353501, 10 ** 12 - 4: 127, 2 ** 38: 2 ** 19, 2 ** 39: 2 ** 18,
        }
        for measure, number in meant.items():
            self.assertLess(measure, 10 ** 12)
            self.assert_same(self.assert_within(3, factor, measure), number)

    def test_factor_in_a_row_of_great_measures(self):
        for measure in range(10 ** 12 - 200, 10 ** 12):
            if is_measure(measure):
                number = factor(measure)
                quotient = measure // (number * number)
                self.assertEqual(number * number * quotient, measure)
                self.assertIn(quotient % 4, (0, 1))
                greater = [f for f in range(2, 2000)
                           if quotient % (f * f) == 0 and quotient // (f * f) % 4 in (0, 1)]
                self.assertEqual(greater, [], measure)
