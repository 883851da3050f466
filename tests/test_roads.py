"""[26] Roads: words of few deeds between any two cuttings of a measure."""

import random
from math import prod

from slitsheets.cuttings import cuttings, is_cutting, measure_of
from slitsheets.deeds import done, is_deed, led_back, mirror, passed
from slitsheets.errors import InvalidCutting
from slitsheets.heart import heart_numbered, how_many_heart
from slitsheets.roads import is_road, road
from plain import SEARCHED, distances, graph, measures, plain_deeds, plain_done
from support import WRONG_CUTTINGS, Case
from test_deeds import GREAT_CUTTINGS, WRONG_WORDS, great_deeds

LOW, HIGH, BENT = (0, 2, 1, -3), (0, 4, 1, 1), (1, 2, 2, -1)
BOTH = [LOW, HIGH, BENT]
OTHER_SIGN = (0, 4, 1, -1)


def is_joined(one, other):
    """Whether some word leads from one cutting to another of its measure, by the words of [26]."""
    measure = measure_of(one)
    if measure % 8 != 1 or measure == 9:
        return True
    sums = [e // 2 + (c + 1) * (a + b + a * b) for a, b, c, e in (one, other)]
    return (sums[0] - sums[1]) % 2 == 0


def any_graph(measure):
    """As graph, for measures of which plain has no list."""
    return {cutting: [(deed, plain_done(cutting, deed)) for deed in plain_deeds(cutting)]
            for cutting in cuttings(measure)}


class RoadCase(Case):

    def assert_road(self, one, other, seconds=3):
        told = self.assert_within(seconds, road, one, other)
        if not is_joined(one, other):
            self.assertIsNone(told)
            return None
        self.assertIsInstance(told, list)
        self.assertLessEqual(len(told), 12)
        here = one
        for deed in told:
            self.assert_same(is_deed(here, deed), True)
            here = done(here, deed)
        self.assertEqual(here, other)
        self.assert_same(is_road(one, other, told), True)
        return told


class Small(RoadCase):

    def test_a_road_is_told_exactly_where_words_lead(self):
        for measure in SEARCHED:
            steps = graph(measure)
            for one in steps:
                far = distances(steps, [one])
                for other in list(steps)[::1 if measure < 90 or measure in (121, 145) else 3]:
                    self.assertEqual(is_joined(one, other), other in far, (one, other))
                    self.assert_plain_road(steps, one, other, far)

    def test_measures_whose_heart_falls_into_three_and_those_beside(self):
        for measure in (9, 49, 73, 121, 169, 161, 168, 172, 177, 184, 185, 193, 196, 197, 200, 201, 204, 205, 208, 209):
            steps = any_graph(measure)
            for one in list(steps)[::4]:
                far = distances(steps, [one])
                for other in list(steps)[::3]:
                    self.assertEqual(is_joined(one, other), other in far, (one, other))
                    self.assert_plain_road(steps, one, other, far)

    def test_greater_measures(self):
        for measure in [*measures(900)[-60::7], 1000, 1600, 2001, 2025, 5184, 9801, 19996, 20000]:
            told = cuttings(measure) if measure < 6000 else [heart_numbered(measure, number) for number
                                                              in range(how_many_heart(measure))]
            for one in told[::11]:
                for other in told[::17]:
                    self.assert_road(one, other)

    def assert_plain_road(self, steps, one, other, far):
        told = road(one, other)
        if other not in far:
            self.assertIsNone(told)
            self.assertIsNone(road(other, one))
            return
        here = one
        for deed in told:
            here = dict(steps[here])[deed]
        self.assertEqual(here, other)
        self.assertTrue(far[other] <= len(told) <= 12)
        self.assert_same(is_road(one, other, told), True)


def cuttings_joined_to(cutting, rng, many):
    """Cuttings of the measure of one to which words of great and small deeds lead."""
    found = [cutting]
    for _ in range(many):
        found.append(done(found[-1], rng.choice(great_deeds(found[-1]))))
    return found


class Great(RoadCase):

    def test_measures_of_thirty_figures(self):
        rng = random.Random(26)
        for measure in [10 ** 29, 10 ** 29 + 1, 10 ** 30 - 7, 10 ** 30 - 3, 10 ** 30 - 4, (10 ** 15 - 1) ** 2,
                        (10 ** 15 - 2) ** 2, (5 * 10 ** 14) ** 2 + 1, 3 ** 62, 7 ** 34 * 9 + 56]:
            measure -= measure % 4 // 2 * 2
            many = how_many_heart(measure)
            hearts = [heart_numbered(measure, number) for number in (0, 1, many // 3, many // 2, many - 2, many - 1)]
            told = [cutting for heart in hearts[1:5] for cutting in cuttings_joined_to(heart, rng, 3)[2:]] + hearts
            for one in told[::2]:
                for other in told[::3]:
                    self.assertEqual(self.assert_road(one, other) is None, self.assert_road(other, one) is None)

    def test_cuttings_with_numbers_of_thirty_figures(self):
        rng = random.Random(27)
        for cutting in GREAT_CUTTINGS:
            measure = measure_of(cutting)
            many = how_many_heart(measure)
            told = [heart_numbered(measure, 0), heart_numbered(measure, many // 2), heart_numbered(measure, many - 1),
                    heart_numbered(measure, many - 2), mirror(cutting), *cuttings_joined_to(cutting, rng, 4)]
            for other in told:
                self.assert_road(cutting, other)
                self.assert_road(other, cutting)

    def test_where_many_primes_divide_the_numbers(self):
        rng = random.Random(28)
        primes = [number for number in range(2, 110) if all(number % other for other in range(2, number))]
        for many in (8, 12, 16, 20, 24):
            product = prod(primes[:many])
            for e in (1, 3, -7, product - 2 if many < 13 else 5):
                for c in (1, primes[3], product if many < 13 else 15):
                    one = (0, product, c, e)
                    if not is_cutting(one):
                        continue
                    for other in cuttings_joined_to(one, rng, 2):
                        self.assertIsNotNone(self.assert_road(one, other))
                        self.assertIsNotNone(self.assert_road(other, one))
                    beside = heart_numbered(measure_of(one), how_many_heart(measure_of(one)) // 5)
                    self.assert_road(one, beside)

    def test_within_the_heart_of_any_measure(self):
        rng = random.Random(29)
        for _ in range(60):
            measure = 4 * rng.randrange(10 ** rng.randrange(4, 30)) + rng.randrange(200) * 4 + rng.randrange(2) + 400
            many = how_many_heart(measure)
            for _ in range(5):
                one, other = (heart_numbered(measure, rng.randrange(many)) for _ in range(2))
                self.assert_road(one, other)


class Judged(RoadCase):

    def test_words_that_lead_there_and_others(self):
        for one, other, value, meant in (
                (HIGH, LOW, [(0, 1)], True), (HIGH, OTHER_SIGN, [(0, 1)], False), (LOW, LOW, [], True),
                (LOW, BENT, [], False), (LOW, LOW, [(1, 3)] * 1000, True), (LOW, LOW, [(1, 3)] * 1001, False),
                (LOW, HIGH, [(1, 3)] * 999 + [(0, 1)], True), (LOW, BENT, [(1, 3), (1, 2)], True),
                (LOW, BENT, [(1, 2), (1, 3)], False), (LOW, BENT, [(1, 2), (0, 1), (1, 2)], True)):
            self.assert_same(is_road(one, other, value), meant)
            self.assert_same(is_road(one=one, other=other, value=value), meant)

    def test_against_the_way_of_each_word(self):
        for measure in (17, 24, 33, 45):
            steps = graph(measure)
            words = [[]] + [[deed] for deed in sorted({deed for told in steps.values() for deed, _ in told})]
            words += [word + last for word in words[1:] for last in words[1:4]]
            for one in steps:
                for word in words:
                    here = one
                    for deed in word:
                        here = dict(steps[here]).get(deed) if here else None
                    for other in steps:
                        self.assert_same(is_road(one, other, word), here == other)

    def test_great_words(self):
        rng = random.Random(30)
        for cutting in GREAT_CUTTINGS[:6]:
            word, here = [], cutting
            for _ in range(40):
                word.append(rng.choice(great_deeds(here)))
                here = done(here, word[-1])
            self.assert_same(self.assert_within(3, is_road, cutting, here, word), True)
            self.assert_same(is_road(here, cutting, led_back(cutting, word)), True)
            self.assert_same(is_road(cutting, passed(cutting, word)[-2], word), passed(cutting, word)[-2] == here)

    def test_any_value_is_judged(self):
        self.assert_judged_false([value for value in WRONG_WORDS if value != []], is_road, LOW, HIGH)
        self.assert_judged_false([value for value in WRONG_WORDS if value != []], is_road, LOW, LOW)

    def test_wrong_arguments(self):
        places = [("one", InvalidCutting, BOTH, WRONG_CUTTINGS), ("other", InvalidCutting, BOTH, WRONG_CUTTINGS)]
        self.assert_refusals(road, *places)
        self.assert_taken(road, *places)
        anything = ("value", None, [[], [(0, 1)], None, True, [None], [(True, 3)], (0, 1)], [])
        for wrong in WRONG_CUTTINGS:
            for value in anything[2]:
                for other in (LOW, (0, 1, 1, -1), None, wrong):
                    self.assert_refused(InvalidCutting, wrong, is_road, wrong, other, value)
                self.assert_refused(InvalidCutting, wrong, is_road, LOW, wrong, value)
            self.assert_refused(InvalidCutting, wrong, is_road, one=LOW, other=wrong, value=[])
        self.assert_taken(is_road, *places, anything)

    def test_unlike_cuttings(self):
        self.assert_unlike(road)
        for value in ([], None, [(0, 1)], True):
            self.assert_unlike(is_road, value)

    def test_a_list_is_new_and_a_changed_one_is_looked_at_anew(self):
        for one, other in ((LOW, HIGH), (LOW, LOW), (HIGH, HIGH), (heart_numbered(10 ** 20, 7),) * 2,
                           (heart_numbered(10 ** 20, 7), heart_numbered(10 ** 20, 10 ** 9))):
            told = road(one, other)
            meant = list(told)
            self.assertIsNot(road(one, other), told)
            told.append(None)
            self.assert_same(is_road(one, other, told), False)
            self.assert_same(road(one, other), meant)
            told.pop()
            self.assert_same(is_road(one, other, told), True)
        word = [(1, 2)]
        self.assert_same(is_road(LOW, BENT, word), True)
        word.append((0, 1))
        self.assert_same([is_road(LOW, BENT, word), is_road(LOW, LOW, word)], [False, True])

    def test_equal_calls_bring_equal_results_whatever_lies_between(self):
        great = [heart_numbered(10 ** 20, number) for number in (7, 10 ** 9)]
        calls = [(road, LOW, HIGH), (road, LOW, OTHER_SIGN), (road, (0, 2, 3, -6), (0, 15, 1, 0)), (road, *great),
                 (is_road, LOW, HIGH, [(0, 1)]), (is_road, LOW, BENT, [(0, 1)])]
        self.assert_repeated(calls)
