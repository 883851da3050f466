"""[12] to [17] Deeds, what they lead to and back, words of them, and the mirror."""

from itertools import product
from math import gcd

from slitsheets.cuttings import cuttings, is_cutting, measure_of
from slitsheets.deeds import (
    back, deeds, deeds_to, done, how_many_deeds, is_deed, is_word, led, led_back, mirror, mirror_deed, passed)
from slitsheets.errors import InvalidCutting, InvalidDeed, InvalidWord, TooMany, Unlike
from plain import SEARCHED, graph, plain_backs, plain_deeds, plain_done
from support import WRONG_CUTTINGS, Case, any_values, same

LOW = (0, 2, 1, -3)
# Deeds of LOW are (0, 1), (1, 2), (1, 3) and (2, 3).
WRONG_DEEDS = any_values() + [
    0, 7, (0, 0), (0, -1), (1, 1), (-1, 1), (0, 2), (2, 2), (3, 2), (-1, 2), (0, 3), (3, 3), (4, 3), (1, 4), (3, 4),
    (1, -2), (-1, -2), (0,), (0, 1, 0), [0, 1], [(0, 1)], ((0, 1),), ((0, 1), (0, 1)), (False, 1), (0, True), (True, 2),
    (True, 3), (None, 1), (0, None), ("0", 1), (0, "1"), ([0], 1), (0, (1,)), (0, {}), (InvalidDeed(), 1),
    (10 ** 29, 1), (0, 10 ** 29), (1, 10 ** 29), (-(10 ** 29), 1), (1, -(10 ** 29)), (10 ** 29, 10 ** 29 + 1)]
WRONG_WORDS = [value for value in any_values() if value != []] + [
    0, (0, 1), [0, 1], [[0, 1]], ((0, 1),), {(0, 1): True}, [[]], [()], [None], [True], [[(0, 1)]],
    [(1, 1), (0, 1), (0, 1)], [(0, 1), (1, 2), (0, 1)], [(1, 3), (1, 3), (1, 4)], [(1, 2), (1, 2)],
    [(0, 1)] * 2 + [None], [None, (0, 1)], [(0, 1), None, (0, 1)], [(0, 1), [0, 1]], [(False, 1)], [(0, True)],
    [(1, 3), (True, 3)], [(True, 3), (1, 3)], [(1, 3), (True, 2), (0, 1)], [(0, 1, 0)], [(0,)], [(1, 3)] * 1001,
    [(1, 3)] * 1000 + [(1, 2)], [(1, 3)] * 999 + [(3, 3)], [None] * 2000, [(10 ** 29, 10 ** 29 + 1)]]
WORDS = [[], [(0, 1)], [(1, 2), (0, 1), (1, 3)], [(1, 3)] * 1000, [(2, 3), (1, 3), (0, 1)]]
CUTTING = ("cutting", InvalidCutting, [LOW], WRONG_CUTTINGS)
DEED = ("deed", InvalidDeed, [(0, 1), (1, 2), (1, 3), (2, 3)], WRONG_DEEDS)
WORD = ("word", InvalidWord, WORDS, WRONG_WORDS)

GREAT = 10 ** 29
GREAT_CUTTINGS = [
    (0, GREAT, 1, 1), (0, GREAT, 1, GREAT - 2), (GREAT - 1, GREAT, GREAT, -1), (0, 1, GREAT, -GREAT),
    (12345678901234567890, 6 * 10 ** 28, 9 * 10 ** 28, -(10 ** 29) + 3), (0, GREAT - 1, GREAT - 4, 2),
    (1, 7 * 10 ** 14, 21 * 10 ** 28, -(3 * 10 ** 29) + 2), (0, 3 ** 60, 2 ** 90, -(10 ** 28)),
    (3 ** 40 - 2, 3 ** 60, 3 ** 50 * 1024, -(3 ** 60)), (0, 1, 1, -GREAT)]


def great_deeds(cutting):
    """Deeds of a great cutting: with the least and greatest q, and some between, with low and high p."""
    _, b, c, e = cutting
    low, high = 1, 10 ** 32
    while high - low > 1:
        middle = (low + high) // 2
        if b - middle * e - middle * middle * c > 0:
            low = middle
        else:
            high = middle
    share = c // gcd(b, c)
    found = []
    for q in sorted({1, 2, 3, low // 7, low // 2, low - 1, low}):
        if 1 <= q <= low:
            for p in [0, 1, q * share // 3, q * share // 2, q * share - 1]:
                while gcd(p, q) > 1:
                    p += 1
                if p < q * share:
                    found.append((p, q))
    return found


def great_word(cutting, length):
    """A word of a great cutting, and the cuttings on its way."""
    word, way = [], [cutting]
    while len(word) < length:
        told = great_deeds(way[-1])
        word.append(told[(7 * len(word) + 3) % len(told)])
        way.append(done(way[-1], word[-1]))
    return word, way


class DeedCase(Case):

    def assert_too_many(self, many, function, *arguments):
        """The call raises TooMany, which bears this number."""
        with self.assertRaises(TooMany) as caught:
            function(*arguments)
        self.assert_same(caught.exception.value, many)


class Judged(DeedCase):

    def test_is_deed_against_its_words(self):
        for told in SEARCHED.values():
            for cutting in told[::7]:
                meant = plain_deeds(cutting)
                for value in product(range(-1, 9), range(-1, 6)):
                    self.assert_same(is_deed(cutting, value), value in meant)

    def test_the_first_deed_is_always_one(self):
        for cutting in [cutting for told in SEARCHED.values() for cutting in told] + GREAT_CUTTINGS:
            self.assertTrue(is_cutting(cutting))
            self.assert_same(is_deed(cutting, (0, 1)), True)
            self.assert_same(is_deed(cutting, (0, 2)), False)

    def test_any_value_is_judged(self):
        self.assert_judged_false(WRONG_DEEDS, is_deed, LOW)
        self.assert_judged_false(WRONG_WORDS, is_word, LOW)
        self.assert_same(is_deed(cutting=LOW, value=(2, 3)), True)
        self.assert_same(is_word(cutting=LOW, value=[(2, 3)]), True)

    def test_the_cutting_is_checked_ahead_of_the_value(self):
        for function in (is_deed, is_word):
            for wrong in WRONG_CUTTINGS:
                for value in [None, [], (0, 1), [(0, 1)], True, (0, 0)]:
                    self.assert_refused(InvalidCutting, wrong, function, wrong, value)
                self.assert_refused(InvalidCutting, wrong, function, cutting=wrong, value=(0, 1))


class Told(DeedCase):

    def test_the_lists_against_a_plain_search(self):
        for told in SEARCHED.values():
            for cutting in told:
                meant = plain_deeds(cutting)
                self.assert_same(deeds(cutting), meant)
                self.assert_same(how_many_deeds(cutting), len(meant))

    def test_counts_of_greater_measures(self):
        for cutting in [(0, 1, 1, -998), (0, 999, 1, -998), (0, 999, 1, 996), (0, 249999, 1, 2), (0, 249999, 1, -2),
                        (0, 499, 500, -2), (0, 500, 499, 0), (0, 1, 997, -997), (0, 100, 101, -979), (5, 24, 36, -985),
                        (498, 499, 499, -1), (0, 7, 65, -640), (0, 11, 13, -989), (1, 3, 165, -985), (1, 2, 2, -997)]:
            self.assertTrue(is_cutting(cutting), cutting)
            self.assertLessEqual(measure_of(cutting), 1000000, cutting)
            many = self.assert_within(4, how_many_deeds, cutting)
            _, b, c, e = cutting
            totals = [len([p for p in range(q) if gcd(p, q) == 1])
                      for q in range(1, 1001) if b - q * e - q * q * c > 0]
            self.assert_same(many, c // gcd(b, c) * sum(totals))
            if many <= 2000:
                self.assert_same(self.assert_within(4, deeds, cutting), plain_deeds(cutting))
            else:
                self.assert_too_many(many, deeds, cutting)

    def test_two_thousand_are_told_and_more_are_not(self):
        for cutting in ((0, 1, 25, -403), (0, 3, 6, -343), (1, 6, 12, -684)):
            self.assertLess(measure_of(cutting), 1000000)
            self.assert_same(how_many_deeds(cutting), 2000)
            self.assert_same(self.assert_within(4, deeds, cutting), plain_deeds(cutting))
            self.assert_same(self.assert_within(4, deeds_to, cutting, done(cutting, (0, 1))),
                             [deed for deed in plain_deeds(cutting) if done(cutting, deed) == done(cutting, (0, 1))])
        for cutting, many in (((0, 1, 91, -735), 2002), ((0, 1, 2001, -2001), 2001), ((0, 999, 1, -998), 303144)):
            self.assert_same(how_many_deeds(cutting), many)
            self.assert_too_many(many, deeds, cutting)
            deeds_there = [deed for deed in [(0, 1), (1, 1), (1, 2)] if is_deed(cutting, deed)]
            for other in (cutting, done(cutting, (0, 1)), done(cutting, deeds_there[1])):
                self.assert_too_many(many, deeds_to, cutting, other)

    def test_only_the_deeds_of_the_first_cutting_can_be_too_many(self):
        few, many = (0, 825, 1, 733), (0, 1, 91, -735)
        self.assertEqual(measure_of(few), measure_of(many))
        self.assert_too_many(2002, deeds_to, many, few)
        self.assert_same(deeds_to(few, many), [])
        self.assert_same(deeds_to(few, done(few, (0, 1))), [(0, 1)])

    def test_each_list_is_a_new_one(self):
        for function, arguments in ((deeds, (LOW,)), (deeds_to, (LOW, LOW)), (passed, (LOW, [(0, 1)])),
                                    (led_back, (LOW, [(0, 1)])), (passed, (LOW, [])), (led_back, (LOW, []))):
            told = function(*arguments)
            meant = list(told)
            told.append(None)
            self.assert_same(function(*arguments), meant)
            self.assertIsNot(function(*arguments), told)

    def test_wrong_arguments(self):
        cutting = ("cutting", InvalidCutting, [LOW, (1, 2, 2, -1), (0, 6, 1, 0)], WRONG_CUTTINGS)
        for function in (how_many_deeds, deeds, mirror):
            self.assert_refusals(function, cutting)
            self.assert_taken(function, cutting)


class Done(DeedCase):

    def test_against_the_words_with_any_of_the_free_numbers(self):
        for told in SEARCHED.values():
            for cutting in told:
                for deed in plain_deeds(cutting):
                    meant = plain_done(cutting, deed)
                    self.assert_same(done(cutting, deed), meant)
                    for times, more in ((1, 0), (0, 1), (-2, 3), (5, -4)):
                        self.assertEqual(plain_done(cutting, deed, times, more), meant)

    def test_each_deed_leads_to_a_cutting_of_the_measure_and_back(self):
        for measure, told in SEARCHED.items():
            for cutting in told:
                for deed in plain_deeds(cutting):
                    other = done(cutting, deed)
                    self.assertIn(other, told)
                    self.assert_same(measure_of(other), measure)
                    turned = back(cutting, deed)
                    self.assertEqual([turned], plain_backs(cutting, deed))
                    self.assert_same(turned, plain_backs(cutting, deed)[0])
                    self.assert_same(is_deed(other, turned), True)
                    self.assert_same(done(other, turned), cutting)
                    self.assert_same(back(other, turned), deed)

    def test_greater_measures(self):
        for cutting in [(0, 1, 25, -403), (0, 3, 6, -343), (1, 6, 12, -684), (0, 1, 91, -735), *cuttings(2001)[::9]]:
            for deed in plain_deeds(cutting)[::53]:
                self.assert_same(done(cutting, deed), plain_done(cutting, deed, 1, -1))
                if how_many_deeds(done(cutting, deed)) < 200:
                    self.assert_same(back(cutting, deed), plain_backs(cutting, deed)[0])

    def test_great_numbers(self):
        for cutting in GREAT_CUTTINGS:
            told = great_deeds(cutting)
            self.assertGreaterEqual(len(told), 1)
            for deed in told:
                self.assert_same(is_deed(cutting, deed), True)
                other = self.assert_within(1, done, cutting, deed)
                self.assert_same(is_cutting(other), True)
                self.assert_same(measure_of(other), measure_of(cutting))
                self.assert_same(other[3], -cutting[3] - 2 * deed[1] * cutting[2])
                self.assert_same(other[2], gcd(deed[0] * cutting[1] + deed[1] * cutting[0], deed[1] * cutting[2]))
                turned = self.assert_within(1, back, cutting, deed)
                self.assert_same(is_deed(other, turned), True)
                self.assert_same(done(other, turned), cutting)
                self.assert_same(back(other, turned), deed)

    def test_what_is_just_beyond_a_great_deed_is_none(self):
        for cutting in GREAT_CUTTINGS:
            _, b, c, e = cutting
            share = c // gcd(b, c)
            greatest = great_deeds(cutting)[-1][1]
            for p in range(3):
                self.assert_same(is_deed(cutting, (p, greatest + 1)), False)
            for q in (1, greatest):
                for p in (q * share, q * share + 1, -1):
                    self.assert_same(is_deed(cutting, (p, q)), False)
                    for function in (done, back, mirror_deed):
                        self.assert_refused(InvalidDeed, deed := (p, q), function, cutting, deed)

    def test_wrong_arguments(self):
        for function in (done, back, mirror_deed):
            self.assert_refusals(function, CUTTING, DEED)
            self.assert_taken(function, CUTTING, DEED)


class Words(DeedCase):

    def test_the_empty_word(self):
        for cutting in [LOW, (1, 2, 2, -1)] + GREAT_CUTTINGS:
            self.assert_same(is_word(cutting, []), True)
            self.assert_same(led(cutting, []), cutting)
            self.assert_same(passed(cutting, []), [cutting])
            self.assert_same(led_back(cutting, []), [])

    def test_words_of_small_measures(self):
        for measure in (5, 8, 9, 12, 17, 33, 60, 88):
            steps = graph(measure)
            deeds_there = sorted({deed for told in steps.values() for deed, _ in told})
            for cutting in steps:
                for deed, other in steps[cutting][:4]:
                    for following in deeds_there:
                        word = [deed, following]
                        last = dict(steps[other]).get(following)
                        self.assert_same(is_word(cutting, word), last is not None)
                        if last is None:
                            self.assert_refused(InvalidWord, word, passed, cutting, word)
                            continue
                        self.assert_same(passed(cutting, word), [cutting, other, last])
                        self.assert_same(led(cutting, word), last)
                        turned = led_back(cutting, word)
                        self.assert_same(turned, [plain_backs(other, following)[0], plain_backs(cutting, deed)[0]])
                        self.assert_same(passed(last, turned), [last, other, cutting])

    def test_a_thousand_deeds_are_a_word_and_one_more_is_none(self):
        word = [(1, 3), (1, 2), (0, 1), (2, 3)] * 250
        self.assert_same(self.assert_within(4, is_word, LOW, word), True)
        self.assert_same(self.assert_within(4, led, LOW, word), LOW)
        way = self.assert_within(4, passed, LOW, word)
        self.assert_same(way, [LOW] + [LOW, (1, 2, 2, -1), LOW, LOW] * 250)
        turned = self.assert_within(4, led_back, LOW, word)
        self.assert_same(turned, [(2, 3), (1, 2), (0, 1), (1, 3)] * 250)
        word.append((1, 3))
        self.assert_same(is_word(LOW, word), False)
        for function in (led, passed, led_back):
            self.assert_refused(InvalidWord, word, function, LOW, word)
        del word[501]
        self.assert_same(is_word(LOW, word), False)

    def test_long_words_of_great_cuttings(self):
        for cutting in GREAT_CUTTINGS:
            word, way = great_word(cutting, 1000 if cutting == GREAT_CUTTINGS[4] else 40)
            self.assert_same(self.assert_within(4, is_word, cutting, word), True)
            self.assert_same(self.assert_within(4, passed, cutting, word), way)
            self.assert_same(self.assert_within(4, led, cutting, word), way[-1])
            turned = self.assert_within(4, led_back, cutting, word)
            self.assert_same(self.assert_within(4, passed, way[-1], turned), way[::-1])
            self.assert_same(led_back(way[-1], turned), word)
            p, q = word[-1]
            self.assert_same(is_word(cutting, word[:-1] + [(p, 10 ** 33 * q + 1)]), False)

    def test_a_changed_word_is_looked_at_anew(self):
        word = [(1, 2), (0, 1)]
        self.assert_same(led(LOW, word), LOW)
        way = passed(LOW, word)
        word.append((0, 1))
        self.assert_same(led(LOW, word), (0, 4, 1, 1))
        self.assert_same(way, [LOW, (1, 2, 2, -1), LOW])
        word[1] = (1, 1)
        self.assert_same(is_word(LOW, word), False)
        self.assert_refused(InvalidWord, word, led_back, LOW, word)
        word[:] = [(0, 1)]
        self.assert_same(led_back(LOW, word), [(0, 1)])

    def test_wrong_arguments(self):
        for function in (led, passed, led_back):
            self.assert_refusals(function, CUTTING, WORD)
            self.assert_taken(function, CUTTING, WORD)


class DeedsTo(DeedCase):

    def test_against_a_plain_search(self):
        for measure in list(SEARCHED)[:40] + [153, 160]:
            steps = graph(measure)
            for cutting in steps:
                for other in steps:
                    meant = [deed for deed, behind in steps[cutting] if behind == other]
                    self.assert_same(deeds_to(cutting, other), meant)
                    self.assert_same(deeds_to(cutting=cutting, other=other), meant)
                    self.assertEqual(len(deeds_to(other, cutting)), len(meant))

    def test_wrong_arguments(self):
        both = [LOW, (1, 2, 2, -1), (0, 4, 1, 1)]
        places = [("cutting", InvalidCutting, both, WRONG_CUTTINGS), ("other", InvalidCutting, both, WRONG_CUTTINGS)]
        self.assert_refusals(deeds_to, *places)
        self.assert_taken(deeds_to, *places)

    def test_unlike_cuttings(self):
        self.assert_unlike(deeds_to)
        # Ahead of TooMany, whichever has too many deeds.
        self.assert_refused(Unlike, other := (0, 1, 91, -735), deeds_to, (0, 999, 1, -998), other)
        self.assert_refused(InvalidCutting, other := (0, 1, 91, 735), deeds_to, (0, 999, 1, -998), other)


class Mirror(DeedCase):

    def test_the_mirror_goes_along_with_all_deeds(self):
        for told in SEARCHED.values():
            for cutting in told:
                a, b, c, e = cutting
                other = mirror(cutting)
                self.assert_same(other, ((-a) % gcd(b, c), b, c, e))
                self.assertIn(other, told)
                self.assert_same(mirror(other), cutting)
                self.assertEqual(len(deeds(other)), len(deeds(cutting)))
                for deed in plain_deeds(cutting):
                    self.assert_mirrored(cutting, other, deed)

    def test_the_mirrored_deed_by_its_words(self):
        for told in SEARCHED.values():
            for a, b, c, e in told:
                common = gcd(b, c)
                for h in range(-2 * c, 3 * c):
                    if h == 0 if a == 0 else (h * (b // common) - 1) % (c // common) == 0:
                        for p, q in plain_deeds((a, b, c, e))[:5]:
                            self.assert_same(mirror_deed((a, b, c, e), (p, q)), ((-p - q * h) % (q * (c // common)), q))

    def test_great_numbers(self):
        for cutting in GREAT_CUTTINGS:
            other = mirror(cutting)
            self.assert_same(is_cutting(other), True)
            self.assert_same(mirror(other), cutting)
            for deed in great_deeds(cutting):
                self.assert_mirrored(cutting, other, deed)

    def assert_mirrored(self, cutting, other, deed):
        mirrored = mirror_deed(cutting, deed)
        self.assert_same(is_deed(other, mirrored), True)
        self.assert_same(mirrored[1], deed[1])
        self.assert_same(mirror_deed(other, mirrored), deed)
        self.assert_same(done(other, mirrored), mirror(done(cutting, deed)))
        self.assert_same(back(other, mirrored), mirror_deed(done(cutting, deed), back(cutting, deed)))


class Equal(DeedCase):

    def test_equal_calls_bring_equal_results_whatever_lies_between(self):
        calls = [(deeds, LOW), (how_many_deeds, LOW), (done, LOW, (1, 2)), (back, LOW, (1, 2)), (led, LOW, [(1, 2)]),
                 (deeds_to, LOW, LOW), (mirror, (1, 3, 3, -9)), (mirror_deed, (0, 3, 1, -5), (1, 3)),
                 (is_word, LOW, [(1, 2), (1, 2)]), (is_deed, LOW, (2, 2))]
        first = [function(*arguments) for function, *arguments in calls]
        for function, *arguments in reversed(calls):
            function(*arguments)
            with self.assertRaises(InvalidCutting):
                function([], *arguments[1:])
        again = [function(*arguments) for function, *arguments in calls]
        self.assertTrue(same(first, again))
