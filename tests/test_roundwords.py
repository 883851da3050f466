"""[37], [38] Words that come round: their two numbers, kinds, powers and orders."""

import random
from fractions import Fraction

from slitsheets.cuttings import cuttings, is_cutting, measure_of
from slitsheets.deeds import back, deeds, done, led, led_back
from slitsheets.errors import InvalidCutting, InvalidNumber, InvalidWord
from slitsheets.paths import root_path
from slitsheets.roads import road
from slitsheets.roundwords import round_kind, round_numbers, round_order, round_power
from slitsheets.tables import table_back, word_table
from plain import SEARCHED
from plain_sheets import Surd
from support import WRONG_CUTTINGS, Case, wrong_numbers
from test_deeds import LOW, WRONG_WORDS, great_deeds
from test_paths import BASE, added
from test_tables import OPPOSITE, UNMOVING, plain_led, plain_product

ORDERS = (1, 2, 3, 4, 5, 6, 8, 10, 12)
ROUND = [[(1, 3)], [(2, 3)], [(1, 2), (0, 1)], [(1, 3), (2, 3)] * 12]
NOT_ROUND = WRONG_WORDS + [[], [(0, 1)], [(1, 2)], [(1, 3), (0, 1)], [(1, 3)] * 23 + [(1, 2)]]
CUTTING = ("cutting", InvalidCutting, [LOW], WRONG_CUTTINGS)
WORD = ("word", InvalidWord, ROUND, NOT_ROUND)
WRONG_TIMES = wrong_numbers() + [301, -301, 302, 10 ** 29, -(10 ** 29)]
TIMES = ("times", InvalidNumber, [0, 1, 2, -1, -2, 5, 300, -300], WRONG_TIMES)
# Of measures of at most 1,000,000.
GREAT = [(0, 249999, 1, 2), (0, 249999, 1, -2), (0, 499, 500, -2), (498, 499, 499, -1), (0, 1, 997, -997),
         (5, 24, 36, -985), (0, 999, 1, 996), (1, 3, 165, -985), (0, 24, 36, -985), (0, 1, 1, -998), (1, 2, 2, -997)]


def round_words(cutting, longest):
    """All words of a cutting that come round with at most so many deeds."""
    words, found = [([], cutting)], []
    for _ in range(longest):
        words = [(word + [deed], done(here, deed)) for word, here in words for deed in deeds(here)]
        found += [word for word, here in words if here == cutting]
    return found


def any_round_word(cutting, rng, many, at_random=great_deeds):
    """A word of so many deeds of any kind and, behind them, a road home."""
    word, here = [], cutting
    for _ in range(many):
        word.append(rng.choice(at_random(here)))
        here = done(here, word[-1])
    return word + road(here, cutting)


def plain_power(table, times):
    power = UNMOVING
    for _ in range(times):
        power = plain_product(power, table)
    return power


def all_added(one, other, times=1):
    return [added(row, beside, times) for row, beside in zip(one, other)]


def root_table(cutting):
    return [[root_path(cutting, base)[k] for base in BASE] for k in range(4)]


class RoundCase(Case):

    def assert_numbers(self, cutting, word):
        """The two numbers hold for all paths, and the kind is that of the trace. Both numbers."""
        table = word_table(cutting, word)
        m, n = told = self.assert_within(2, round_numbers, cutting, word)
        self.assert_same(told, (m, n))
        both = all_added(table, table_back(table))
        for base in BASE:
            self.assertEqual(plain_led(both, base), added([m * item for item in base], root_path(cutting, base), n))
            self.assertEqual(plain_led(table, root_path(cutting, base)), root_path(cutting, plain_led(table, base)))
        trace = Surd(measure_of(cutting), Fraction(2 * m + n * cutting[3], 2), Fraction(n, 2))
        far = trace if trace.side() > 0 else -trace
        kind = "turn" if far < 2 else "shear" if far == 2 else "stretch"
        self.assert_same(self.assert_within(2, round_kind, cutting, word), kind)
        return told

    def assert_order(self, cutting, word):
        table = word_table(cutting, word)
        told = self.assert_within(2, round_order, cutting, word)
        power, order = table, 1
        while power != UNMOVING and order < 30:
            power, order = plain_product(power, table), order + 1
        self.assert_same(told, order if order < 30 else None)
        self.assertIn(told, (None, *ORDERS))
        is_ended = round_kind(cutting, word) == "turn" or table in (UNMOVING, OPPOSITE)
        self.assertEqual(told is not None, is_ended)


class Small(RoundCase):

    def test_all_short_words(self):
        kinds, orders = set(), set()
        for measure, longest in ((5, 6), (8, 5), (9, 4), (12, 4), (13, 4), (16, 3), (17, 3), (25, 3), (33, 2), (60, 2)):
            for cutting in SEARCHED[measure]:
                for word in round_words(cutting, longest):
                    self.assert_numbers(cutting, word)
                    self.assert_order(cutting, word)
                    kinds.add(round_kind(cutting, word))
                    orders.add(round_order(cutting, word))
        self.assertEqual(kinds, {"turn", "shear", "stretch"})
        self.assertEqual(orders, {None, 1, 2, 4})

    def test_a_deed_and_back_come_round(self):
        for measure in (5, 8, 17, 24, 45, 88, 105):
            for cutting in SEARCHED[measure]:
                for deed in deeds(cutting):
                    word = [deed, back(cutting, deed)]
                    self.assert_numbers(cutting, word)
                    self.assert_order(cutting, word)

    def test_powers(self):
        for measure, longest in ((5, 4), (8, 3), (12, 3), (17, 2), (25, 2)):
            for cutting in SEARCHED[measure]:
                for word in round_words(cutting, longest)[:12]:
                    table = word_table(cutting, word)
                    m, n = round_numbers(cutting, word)
                    for times in range(7):
                        told = round_power(cutting, word, times)
                        self.assert_same(told, plain_power(table, times))
                        self.assert_same(round_power(cutting, word, -times), plain_power(table_back(table), times))
                        if times >= 2:
                            ahead = round_power(cutting, word, times - 1)
                            meant = [[m * item for item in row] for row in ahead]
                            meant = all_added(meant, plain_product(root_table(cutting), ahead), n)
                            self.assert_same(told, all_added(meant, round_power(cutting, word, times - 2), -1))

    def test_two_words_in_either_order(self):
        for measure in (8, 12, 17, 24, 33):
            for cutting in SEARCHED[measure]:
                words = round_words(cutting, 2)
                for one, other in zip(words, words[1:] + words[:1]):
                    self.assert_same(round_numbers(cutting, one + other), round_numbers(cutting, other + one))
                    self.assert_same(round_kind(cutting, one + other), round_kind(cutting, other + one))

    def test_bounds_of_the_trace(self):
        # A shear that never comes to an end, and turns with those whose trace is 2 or -2 between them.
        shear = [(1, 1), (1, 2), (0, 1)]
        self.assert_same([round_kind((0, 1, 2, -2), shear), round_order((0, 1, 2, -2), shear)], ["shear", None])
        for times, meant in ((1, ("turn", 4)), (2, ("shear", 2)), (3, ("turn", 4)), (4, ("shear", 1)),
                             (22, ("shear", 2)), (23, ("turn", 4)), (24, ("shear", 1))):
            word = [(0, 1)] * times
            self.assert_same((round_kind((0, 1, 1, -1), word), round_order((0, 1, 1, -1), word)), meant)


class Great(RoundCase):

    def test_words_of_twenty_four_deeds(self):
        rng = random.Random(37)
        for cutting in GREAT:
            self.assertTrue(is_cutting(cutting) and measure_of(cutting) <= 1000000, cutting)
            word = any_round_word(cutting, rng, 12)
            there = word[:12]
            for value in (word, there + led_back(cutting, there), any_round_word(cutting, rng, 16)):
                self.assertLessEqual(len(value), 24)
                self.assertEqual(led(cutting, value), cutting)
                m, n = self.assert_numbers(cutting, value)
                self.assert_order(cutting, value)
                table = word_table(cutting, value)
                for far in (300, -300):
                    power = self.assert_within(4, round_power, cutting, value, far)
                    step = far // 300
                    ahead, last = (round_power(cutting, value, far - step * times) for times in (1, 2))
                    meant = [[m * item for item in row] for row in ahead]
                    meant = all_added(meant, plain_product(root_table(cutting), ahead), n)
                    self.assert_same(power, all_added(meant, last, -1))
                    self.assertEqual(plain_product(ahead, table if far > 0 else table_back(table)), power)

    def test_either_order_of_great_words(self):
        rng = random.Random(38)
        for cutting in GREAT + cuttings(1000)[::40]:
            one, other = any_round_word(cutting, rng, 4), any_round_word(cutting, rng, 4)
            self.assert_same(round_numbers(cutting, one + other), round_numbers(cutting, other + one))


class Refused(RoundCase):

    def test_wrong_arguments(self):
        for function in (round_numbers, round_kind, round_order):
            self.assert_refusals(function, CUTTING, WORD)
            self.assert_taken(function, CUTTING, WORD)
        self.assert_refusals(round_power, CUTTING, WORD, TIMES)
        self.assert_taken(round_power, CUTTING, WORD, TIMES)

    def test_words_that_do_not_come_round(self):
        for measure in (8, 12, 17, 24):
            for cutting in SEARCHED[measure]:
                for deed in deeds(cutting):
                    word = [deed]
                    if done(cutting, deed) == cutting:
                        self.assert_numbers(cutting, word)
                        continue
                    for function in (round_numbers, round_kind, round_order):
                        self.assert_refused(InvalidWord, word, function, cutting, word)
                    for times in (0, None, True, 301):
                        self.assert_refused(InvalidWord, word, round_power, cutting, word, times)

    def test_three_hundred_times_and_not_more(self):
        word = [(0, 1)]
        for times in (300, -300):
            self.assert_same(round_power((0, 1, 1, -1), word, times), UNMOVING)
        for times in (301, -301):
            self.assert_refused(InvalidNumber, times, round_power, (0, 1, 1, -1), word, times)
        self.assert_same(round_power((0, 1, 1, -1), word, 298), OPPOSITE)

    def test_lists_are_new_and_changed_ones_are_looked_at_anew(self):
        word = [(1, 3)]
        for times in (0, 1, -1, 2, 7):
            self.assert_own_lists(round_power, LOW, word, times)
        self.assert_same(round_numbers(LOW, word), (9, 3))
        word.append((1, 3))
        self.assert_same(round_power(LOW, [(1, 3)], 2), round_power(LOW, word, 1))
        word.append((0, 1))
        self.assert_refused(InvalidWord, word, round_numbers, LOW, word)

    def test_equal_calls_bring_equal_results_whatever_lies_between(self):
        calls = [(round_numbers, LOW, ROUND[0]), (round_kind, LOW, ROUND[1]), (round_order, LOW, ROUND[2]),
                 (round_power, LOW, ROUND[2], -5), (round_order, (0, 1, 1, -1), [(0, 1)])]
        self.assert_repeated(calls)
