"""[23], [24], [25] The heart of a measure, and the way there."""

from math import gcd, isqrt

from slitsheets.cuttings import cuttings, is_cutting, measure_of
from slitsheets.deeds import deeds, done, is_deed, is_word, led
from slitsheets.errors import InvalidCutting, InvalidMeasure, InvalidNumber, TooMany
from slitsheets.heart import (
    heart_distance, heart_lots, heart_number, heart_numbered, heart_steps, how_many_heart, is_heart, word_to_heart)
from plain import SEARCHED, distances, graph, measures
from support import WRONG_CUTTINGS, Case, same, wrong_measures, wrong_numbers

NO_HEARTS = WRONG_CUTTINGS + [
    (0, 2, 2, -1), (1, 2, 2, -1), (0, 1, 2, -3), (0, 28, 4, 1), (0, 4, 4, -7), (0, 10 ** 29, 2, 1),
    (10 ** 28, 10 ** 29, 10 ** 29, -1), (0, 4, True, 1), (False, 4, 1, 1), (0, True, 1, -1), [0, 4, 1, 1]]
HEARTS = [(0, 4, 1, 1), (0, 1, 1, -1), (0, 2, 1, -3), (0, 2, 1, 0), (0, 10000, 1, 1)]
HEART = ("cutting", InvalidCutting, HEARTS, NO_HEARTS)
MEASURE = ("measure", InvalidMeasure, [17, 5, 8, 9, 49, 1000], wrong_measures())
GREAT_MEASURES = [10 ** 29, 10 ** 29 + 1, 10 ** 30 - 7, 10 ** 30 - 4, 10 ** 30 - 3, (10 ** 15 - 1) ** 2,
                  (10 ** 15 - 2) ** 2, (10 ** 14 + 1) ** 2 + 4, 10 ** 28 + 1, 10 ** 28]


def plain_heart(measure):
    """The heart by its words, in the order of the last items."""
    return [(0, (measure - e * e) // 4, 1, e) for e in range(-isqrt(measure) - 3, isqrt(measure) + 4)
            if e % 2 == measure % 2 and e * e < measure and (e + 2) * (e + 2) < measure]


def plain_parts(measure):
    """The parts of the heart by all deeds."""
    heart = plain_heart(measure)
    steps = {cutting: [(None, other) for other in {done(cutting, deed) for deed in deeds(cutting)} if other in heart]
             for cutting in heart}
    found = []
    for cutting in heart:
        if not [part for part in found if cutting in part]:
            far = distances(steps, [cutting])
            found.append([other for other in heart if other in far])
    return found


class Counted(Case):

    def test_against_the_cuttings(self):
        for measure in measures(700):
            heart = plain_heart(measure)
            self.assertEqual(sorted(heart), [cutting for cutting in cuttings(measure) if cutting[2] == 1])
            self.assert_same(how_many_heart(measure), len(heart))
            for number, cutting in enumerate(heart):
                self.assert_same(heart_numbered(measure, number), cutting)
                self.assert_same(heart_number(cutting), number)
            for cutting in cuttings(measure):
                self.assert_same(is_heart(cutting), cutting in heart)
            for number in (-1, len(heart), len(heart) + 1, -len(heart)):
                self.assert_refused(InvalidNumber, number, heart_numbered, measure, number)

    def test_great_measures(self):
        for measure in GREAT_MEASURES:
            many = self.assert_within(1, how_many_heart, measure)
            first, last = heart_numbered(measure, 0), heart_numbered(measure, many - 1)
            for cutting, e in ((first, first[3] - 2), (last, last[3] + 2)):
                self.assert_same(is_heart(cutting), True)
                self.assert_same(is_heart((0, (measure - e * e) // 4, 1, e)), False)
            self.assert_same(many, (last[3] - first[3]) // 2 + 1)
            for number in (0, 1, many // 2, many // 3, many - 2, many - 1):
                cutting = self.assert_within(1, heart_numbered, measure, number)
                self.assert_same(measure_of(cutting), measure)
                self.assert_same(self.assert_within(1, heart_number, cutting), number)
            for number in (many, many + 1, -1):
                self.assert_refused(InvalidNumber, number, heart_numbered, measure, number)

    def test_any_value_is_judged(self):
        self.assert_judged_false(NO_HEARTS, is_heart)
        self.assert_same(is_heart(value=(0, 4, 1, 1)), True)
        self.assert_same(is_heart((0, 10 ** 29, 1, 10 ** 29 - 2)), True)

    def test_wrong_arguments(self):
        number = ("number", InvalidNumber, [0, 1, 2], wrong_numbers() + [-1, -3, 3, 4, 10 ** 29, -(10 ** 29)])
        self.assert_refusals(heart_numbered, ("measure", InvalidMeasure, [17], wrong_measures()), number)
        self.assert_taken(heart_numbered, ("measure", InvalidMeasure, [17], []), number)
        self.assert_refusals(how_many_heart, MEASURE)
        self.assert_taken(how_many_heart, MEASURE)
        self.assert_refusals(heart_number, HEART)
        self.assert_taken(heart_number, HEART)


class Steps(Case):

    def test_against_all_deeds(self):
        for measure in [*measures(330), 625, 841, 1000]:
            heart = plain_heart(measure)
            for cutting in heart:
                _, b, _, e = cutting
                led_there = [(deed, done(cutting, deed)) for deed in deeds(cutting)]
                reached = {other for _, other in led_there}
                self.assert_same(heart_steps(cutting), [other for other in heart if other in reached])
                for _, _, _, f in heart:
                    meant = e + f <= -2 and gcd((e + f) // 2, b) == 1
                    self.assertEqual((0, (measure - f * f) // 4, 1, f) in reached, meant)
                for deed, other in led_there:
                    if other in heart:
                        self.assertEqual(deed[1], -(e + other[3]) // 2)
                        self.assertIn(cutting, heart_steps(other))
                self.assert_same(done(cutting, (0, 1))[3], -e - 2)

    def test_five_thousand_candidates_are_looked_at_and_more_are_not(self):
        for measure in (10 ** 8 + 4, 10 ** 8 + 5, 10 ** 12 + 1, 10 ** 29 + 1, (2 * 10 ** 9 + 1) ** 2, 26000004):
            many = how_many_heart(measure)
            first = heart_numbered(measure, 0)[3]
            for number in (many - 5001, many - 5000, many - 4999, many - 1, many - 2, 0):
                cutting = heart_numbered(measure, number)
                _, b, _, e = cutting
                candidates = (-e - 2 - first) // 2 + 1
                if candidates > 5000:
                    with self.assertRaises(TooMany) as caught:
                        heart_steps(cutting)
                    self.assert_same(caught.exception.value, candidates)
                else:
                    told = self.assert_within(4, heart_steps, cutting)
                    self.assert_same(told, [(0, (measure - f * f) // 4, 1, f) for f in range(first, -e - 1, 2)
                                            if gcd((e + f) // 2, b) == 1])
        # Just 5,000, and one more.
        measure = 10 ** 29 + 1
        many = how_many_heart(measure)
        self.assertGreater(len(heart_steps(heart_numbered(measure, many - 5000))), 1000)
        with self.assertRaises(TooMany) as caught:
            heart_steps(heart_numbered(measure, many - 5001))
        self.assert_same(caught.exception.value, 5001)

    def test_wrong_arguments(self):
        self.assert_refusals(heart_steps, HEART)
        self.assert_taken(heart_steps, HEART)
        heart_steps((0, 4, 1, 1)).clear()
        self.assert_same(heart_steps((0, 4, 1, 1)), [(0, 2, 1, -3)])


class Parts(Case):

    def test_against_all_deeds(self):
        for measure in [*measures(330), 841, 1000, 1009]:
            self.assert_same(heart_lots(measure), plain_parts(measure))

    def test_how_many_parts_there_are(self):
        for measure in [*measures(1500), *range(1505, 10201, 88), *range(1501, 10201, 156)]:
            told = self.assert_within(4, heart_lots, measure)
            heart = plain_heart(measure)
            self.assertEqual(sorted(cutting for part in told for cutting in part), sorted(heart))
            if measure in (49, 73, 121, 169):
                self.assertEqual(len(told), 3)
            elif measure % 8 == 1 and measure != 9:
                rests = [heart[0][3] % 4, (heart[0][3] + 2) % 4]
                self.assert_same(told, [[cutting for cutting in heart if cutting[3] % 4 == rest] for rest in rests])
            else:
                self.assert_same(told, [heart])

    def test_a_hundred_are_told_and_more_are_not(self):
        for measure in (10004, 10008, 10204, 10400, 10404):
            self.assert_same(how_many_heart(measure), 100)
            self.assertEqual(sum(len(part) for part in self.assert_within(4, heart_lots, measure)), 100)
        for measure, many in ((10205, 101), (10408, 102), (10 ** 29, how_many_heart(10 ** 29)), (10 ** 8 + 1, 9999)):
            self.assert_same(how_many_heart(measure), many)
            with self.assertRaises(TooMany) as caught:
                heart_lots(measure)
            self.assert_same(caught.exception.value, many)

    def test_each_list_is_a_new_one(self):
        told = heart_lots(17)
        told[0].clear()
        told.append(None)
        self.assert_same(heart_lots(17), [[(0, 2, 1, -3), (0, 4, 1, 1)], [(0, 4, 1, -1)]])

    def test_wrong_arguments(self):
        self.assert_refusals(heart_lots, MEASURE)
        self.assert_taken(heart_lots, MEASURE)


PRIMES = [2, 3, 5, 7, 11, 13, 17, 19, 23, 29, 31, 37, 41]


def inverse(number, modulus):
    return pow(number, -1, modulus)


def stubborn_run():
    """A number that has, as many behind it one by one, a divisor in common with the product of PRIMES; the product."""
    left, number, product = list(range(42)), 0, 1
    for prime in PRIMES:
        # The small primes where most numbers are left, the others each for the first one that is left.
        rest = max(range(prime), key=lambda rest: len([at for at in left if at % prime == rest]))
        rest = rest if prime < 13 else left[0] % prime
        left = [at for at in left if at % prime != rest]
        number += (-rest - number) * inverse(product, prime) % prime * product
        product *= prime
        if not left:
            left = [0]
    return number, product


def stubborn_cuttings():
    """Cuttings for which many deeds (p, 1), one behind the other, lead no nearer to the heart.

    The product divides c and, where a, b and c have a divisor in common, b - e, and b leaves 1 by it.
    """
    number, product = stubborn_run()
    for beside in (1, 43, 47):
        a = number + product * (-number * inverse(product, beside) % beside)
        common = (a // beside + 1) * beside
        while gcd(common, product) > 1 or gcd(common, a) != beside:
            common += beside
        b, c = common * inverse(common, product), common * product
        e = b - product * (common + 1)
        while gcd(beside, e) > 1:
            e -= product
        yield a, b, c, e


class Distance(Case):

    def test_against_a_plain_search(self):
        for measure in SEARCHED:
            steps = graph(measure)
            far = distances(steps, plain_heart(measure))
            self.assertEqual(len(far), len(steps))
            for cutting in steps:
                self.assert_same(heart_distance(cutting), far[cutting])
                self.assert_word(cutting)

    def test_greater_measures(self):
        for measure in (1000, 1600, 2001, 5184, 9801):
            for cutting in cuttings(measure)[::3]:
                self.assert_word(cutting)

    def test_where_a_cutting_of_the_heart_leads(self):
        for measure in measures(330):
            for cutting in plain_heart(measure):
                for deed in deeds(cutting):
                    other = done(cutting, deed)
                    common = gcd(deed[1], cutting[1])
                    self.assertEqual([other[2], heart_distance(other)], [common, 0 if common == 1 else 1])
                    if common > 1:
                        back_there = [done(other, (r, 1)) for r in range(other[2]) if is_deed(other, (r, 1))]
                        ends = {reached[3] for reached in back_there if is_heart(reached)}
                        self.assertEqual(ends, {cutting[3] + 2 * (deed[1] - common)})

    def test_great_cuttings(self):
        great = 10 ** 29
        for cutting in ((0, great, 1, 1), (0, great, 10 ** 28, -7), (great - 1, great, great, -1),
                        (0, great, great, -1), (0, 1, great, -great), (2 * 10 ** 28, great, great, -great + 1),
                        (0, 3 ** 60, 2 ** 90, -(10 ** 28)), (6 ** 30, 6 ** 37, 6 ** 37, -1),
                        (0, 30030 ** 6, 30030 ** 6, -(10 ** 29) + 3)):
            self.assertTrue(is_cutting(cutting), cutting)
            self.assert_word(cutting)

    def test_where_many_deeds_lead_no_nearer(self):
        told = list(stubborn_cuttings())
        self.assertEqual([heart_distance(cutting) for cutting in told], [1, 2, 2])
        for cutting in told:
            self.assertTrue(is_cutting(cutting), cutting)
            self.assertLess(max(abs(item) for item in cutting), 10 ** 34)
            for p in range(40):
                self.assertGreaterEqual(heart_distance(done(cutting, (p, 1))), heart_distance(cutting))
            self.assert_word(cutting)

    def test_great_products_of_primes(self):
        primes = [number for number in range(2, 80) if all(number % other for other in range(2, number))]
        product = 1
        for prime in primes:
            product *= prime
            for b, e in ((product + 1, -product * 2), (product, -product - 1), (product * 2, -1), (1, -product * 3)):
                if product < 10 ** 30:
                    common = gcd(b, product)
                    for a in (0, 1, common // 2, common // 6 * 5, common - 1):
                        if is_cutting((a, b, product, e)):
                            self.assert_word((a, b, product, e))

    def assert_word(self, cutting):
        a, b, c, _ = cutting
        far = self.assert_within(1, heart_distance, cutting)
        self.assert_same(far, 0 if c == 1 else 1 if gcd(a, b, c) == 1 else 2)
        word = self.assert_within(2, word_to_heart, cutting)
        self.assert_same(is_word(cutting, word), True)
        self.assert_same(len(word), far)
        self.assert_same(is_heart(led(cutting, word)), True)

    def test_each_list_is_a_new_one(self):
        told = word_to_heart((0, 2, 2, -1))
        self.assertIsNot(word_to_heart((0, 2, 2, -1)), told)
        meant = list(told)
        told.clear()
        self.assert_same(word_to_heart((0, 2, 2, -1)), meant)
        word_to_heart((0, 4, 1, 1)).append(None)
        self.assert_same(word_to_heart((0, 4, 1, 1)), [])

    def test_wrong_arguments(self):
        cutting = ("cutting", InvalidCutting, [(0, 2, 2, -1), (1, 2, 2, -1), (0, 1, 1, -1)], WRONG_CUTTINGS)
        for function in (heart_distance, word_to_heart):
            self.assert_refusals(function, cutting)
            self.assert_taken(function, cutting)

    def test_equal_calls_bring_equal_results_whatever_lies_between(self):
        calls = [(heart_steps, (0, 2, 1, -3)), (heart_lots, 73), (word_to_heart, (0, 2, 2, -1)),
                 (is_heart, (0, 2, 2, -1)), (heart_distance, (1, 2, 2, -1)),
                 (heart_number, (0, 4, 1, -1)), (heart_numbered, 17, 2)]
        first = [function(*arguments) for function, *arguments in calls]
        for function, *arguments in reversed(calls):
            function(*arguments)
        self.assertTrue(same(first, [function(*arguments) for function, *arguments in calls]))
