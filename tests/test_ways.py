"""[21], [22] Words from one cutting to another."""

from slitsheets.cuttings import cuttings, measure_of
from slitsheets.deeds import deeds, done, is_word, led, led_back
from slitsheets.errors import InvalidCutting, InvalidNumber, InvalidWord
from slitsheets.lots import lots
from slitsheets.ways import (
    farthest, how_far, how_many_far, how_many_words, is_shortest, shortest_word, word_number, word_numbered)
from plain import SEARCHED, distances, graph, plain_words
from support import WRONG_CUTTINGS, Case, any_values, same, wrong_numbers

ONE, OTHER = (0, 1, 2, -3), (0, 4, 1, -1)
LOT = [ONE, (0, 2, 2, -1), OTHER]
WRONG_COUNTS = wrong_numbers() + [-1, -2, -60, -(10 ** 29)]
# Deeds of ONE are (0, 1), to (0, 2, 2, -1) and from there back, and (1, 1), to OTHER.
WRONG_WORDS = [value for value in any_values() if value != []] + [
    0, (0, 1), [0, 1], [[0, 1]], ((0, 1),), [None], [(0, 2)], [(2, 1)], [(0, 1), (0, 1), None], [None, (0, 1)],
    [(0, 1), None, (0, 1)], [(0, True)], [(False, 1)], [(True, 1)], [(0, 1), (False, 1)], [(0, 1, 0)], [(1, 1), (1, 1)],
    [(0, 1)] * 1001, [(0, 1)] * 61, [(0, 1)] * 1000, [(0, 1)] * 60 + [None]]
CUTTING = ("cutting", InvalidCutting, [ONE, (0, 2, 1, -3), (0, 1, 1, -1)], WRONG_CUTTINGS)
BOTH = [("one", InvalidCutting, LOT + [(0, 4, 1, 1)], WRONG_CUTTINGS),
        ("other", InvalidCutting, LOT + [(0, 4, 1, 1)], WRONG_CUTTINGS)]


class Shortest(Case):

    def test_against_a_plain_search(self):
        for measure in [*SEARCHED][:32]:
            steps = graph(measure)
            for one in steps:
                far = distances(steps, [one])
                for other in steps:
                    self.assert_same(how_far(one, other), far.get(other))
                    self.assert_same(how_far(other, one), far.get(other))
                    if other not in far:
                        self.assertIsNone(shortest_word(one, other))
                        self.assert_same(is_shortest(one, other, []), False)
                        self.assert_same(is_shortest(one, other, [(0, 1)]), False)
                        continue
                    words = plain_words(steps, one, other, far[other])
                    self.assert_same(shortest_word(one, other), words[0])
                    for word in words[:9]:
                        self.assert_same(is_shortest(one, other, word), True)

    def test_words_that_are_not_shortest(self):
        for measure in (5, 9, 17, 24, 33, 40):
            steps = graph(measure)
            for one in steps:
                for other in steps:
                    best = how_far(one, other)
                    for length in range(4):
                        for word in plain_words(steps, one, other, length)[:20]:
                            self.assert_same(is_shortest(one, other, word), length == best)
                            self.assert_same(is_word(one, word), True)
                    for word in [[], [(0, 1)], [(1, 2)], [(0, 1), (0, 1)], [(0, 9)]]:
                        meant = is_word(one, word) and led(one, word) == other and len(word) == best
                        self.assert_same(is_shortest(one, other, word), meant)

    def test_any_value_is_judged(self):
        self.assert_judged_false(WRONG_WORDS, is_shortest, ONE, OTHER)
        self.assert_same(is_shortest(one=ONE, other=OTHER, value=[(1, 1)]), True)
        self.assert_same(is_shortest(ONE, ONE, []), True)
        for value in [None, (), True, [(0, 1)] * 2, [(0, 1)] * 3]:
            self.assert_same(is_shortest(ONE, ONE, value), False)

    def test_greater_measures(self):
        for measure in (441, 577, 593, 596, 597, 600):
            for lot in lots(measure):
                for one, other in ((lot[0], lot[-1]), (lot[-1], lot[len(lot) // 3]), (lot[len(lot) // 2], lot[0])):
                    word = self.assert_within(4, shortest_word, one, other)
                    self.assert_same(led(one, word), other)
                    self.assert_same(self.assert_within(4, how_far, one, other), len(word))
                    self.assert_same(self.assert_within(4, is_shortest, one, other, word), True)
                    turned = led_back(one, word)
                    self.assert_same(self.assert_within(4, is_shortest, other, one, turned), True)
                    self.assertLessEqual(shortest_word(other, one), turned)
                    self.assert_same(is_shortest(one, other, led_loop(one, word)), False)

    def test_unjoined_cuttings(self):
        for measure in (17, 25, 593, 361):
            first, second = lots(measure)
            for one, other in ((first[0], second[0]), (second[-1], first[-1])):
                self.assertIsNone(shortest_word(one, other))
                self.assertIsNone(how_far(one, other))
                for value in ([], [(0, 1)], None):
                    self.assert_same(is_shortest(one, other, value), False)
                self.assert_same(how_many_words(one, other, 0), 0)
                self.assert_same(how_many_words(one, other, 3), 0)

    def test_wrong_arguments(self):
        for function in (shortest_word, how_far):
            self.assert_refusals(function, *BOTH)
            self.assert_taken(function, *BOTH)
            self.assert_unlike(function)

    def test_the_cuttings_are_checked_ahead_of_the_value(self):
        for value in (None, [], [(0, 1)], True, [(9, 9)]):
            self.assert_unlike(is_shortest, value)
            for wrong in WRONG_CUTTINGS:
                self.assert_refused(InvalidCutting, wrong, is_shortest, wrong, OTHER, value)
                self.assert_refused(InvalidCutting, wrong, is_shortest, wrong, None, value)
                self.assert_refused(InvalidCutting, wrong, is_shortest, ONE, wrong, value)
                self.assert_refused(InvalidCutting, wrong, is_shortest, one=ONE, other=wrong, value=value)


def led_loop(cutting, word):
    """The word with the first deed there and back put ahead of it."""
    ahead = deeds(cutting)[0]
    return [ahead, *led_back(cutting, [ahead]), *word]


class Far(Case):

    def test_against_a_plain_search(self):
        for measure in SEARCHED:
            steps = graph(measure)
            for cutting in steps:
                far = distances(steps, [cutting])
                most = max(far.values())
                self.assert_same(farthest(cutting), (most, min(one for one in far if far[one] == most)))
                counts = [list(far.values()).count(number) for number in range(most + 1)]
                self.assert_same(how_many_far(cutting), counts)

    def test_a_single_cutting(self):
        self.assert_same(farthest((0, 1, 1, -1)), (0, (0, 1, 1, -1)))
        self.assert_same(how_many_far((0, 2, 1, -1)), [1])

    def test_greater_measures(self):
        for measure in (577, 593, 597, 600):
            for lot in lots(measure):
                for cutting in lot[::9]:
                    most, other = self.assert_within(4, farthest, cutting)
                    self.assert_same(how_far(cutting, other), most)
                    counts = self.assert_within(4, how_many_far, cutting)
                    self.assert_same([len(counts), sum(counts), counts[0]], [most + 1, len(lot), 1])
                    self.assertNotIn(0, counts)

    def test_each_list_is_a_new_one(self):
        how_many_far(ONE).clear()
        self.assert_same(how_many_far(ONE), [1, 2])
        shortest_word(ONE, OTHER).clear()
        self.assert_same(shortest_word(ONE, OTHER), [(1, 1)])
        word_numbered(ONE, OTHER, 3, 1).clear()
        self.assert_same(word_numbered(ONE, OTHER, 3, 1), [(1, 1), (0, 1), (0, 1)])

    def test_wrong_arguments(self):
        for function in (farthest, how_many_far):
            self.assert_refusals(function, CUTTING)
            self.assert_taken(function, CUTTING)


class Numbered(Case):

    def test_against_all_words(self):
        for measure in (5, 8, 9, 12, 13, 17, 20, 24, 25):
            steps = graph(measure)
            for one in steps:
                for other in steps:
                    for length in range(5 if measure < 20 else 4):
                        words = plain_words(steps, one, other, length)
                        self.assert_same(how_many_words(one, other, length), len(words))
                        self.assert_same(how_many_words(other, one, length), len(words))
                        for number in range(0, len(words), len(words) // 25 + 1):
                            self.assert_same(word_numbered(one, other, length, number), words[number])
                            self.assert_same(word_number(one, words[number]), number)
                        for number in (len(words), len(words) + 1):
                            self.assert_refused(InvalidNumber, number, word_numbered, one, other, length, number)

    def test_no_deeds(self):
        for cutting in (ONE, (0, 1, 1, -1), (0, 6, 1, 0)):
            self.assert_same(how_many_words(cutting, cutting, 0), 1)
            self.assert_same(word_numbered(cutting, cutting, 0, 0), [])
            self.assert_same(word_number(cutting, []), 0)
        self.assert_same(how_many_words(ONE, OTHER, 0), 0)
        self.assert_refused(InvalidNumber, 0, word_numbered, ONE, OTHER, 0, 0)

    def test_sixty_deeds(self):
        for measure in (153, 177, 193, 196, 197, 200):
            for lot in lots(measure):
                for one, other in ((lot[0], lot[-1]), (lot[-1], lot[-1])):
                    many = self.assert_within(4, how_many_words, one, other, 60)
                    self.assertGreater(many, 10 ** 30)
                    self.assert_same(how_many_words(other, one, 60), many)
                    for number in (0, 1, many // 3, many // 2 + 7, many - 1):
                        word = self.assert_within(4, word_numbered, one, other, 60, number)
                        self.assertEqual(len(word), 60)
                        self.assert_same(led(one, word), other)
                        self.assert_same(self.assert_within(4, word_number, one, word), number)
                    self.assert_refused(InvalidNumber, many, word_numbered, one, other, 60, many)
                    before = word_numbered(one, other, 60, many // 3 - 1)
                    self.assertLess(before, word_numbered(one, other, 60, many // 3))

    def test_longer_words_are_counted_too_and_from_a_thousand_on_there_are_none(self):
        for length in (61, 100):
            many = how_many_words(ONE, OTHER, length)
            self.assert_same(many, sum([how_many_words(done(ONE, deed), OTHER, length - 1) for deed in deeds(ONE)]))
            word = word_numbered(ONE, OTHER, length, many - 1)
            self.assert_same(led(ONE, word), OTHER)
            self.assert_refused(InvalidWord, word, word_number, ONE, word)
        self.assertGreater(self.assert_within(4, how_many_words, ONE, OTHER, 1000), 0)
        self.assert_same(is_word(ONE, word_numbered(ONE, OTHER, 1000, 0)), True)
        for length in (1001, 10 ** 29):
            self.assert_same(how_many_words(ONE, OTHER, length), 0)
            self.assert_refused(InvalidNumber, 0, word_numbered, ONE, OTHER, length, 0)

    def test_numbers_of_greater_measures(self):
        for cutting in ((0, 1, 6, -24), (0, 6, 1, -24), (0, 149, 1, 2), (2, 5, 5, -22)):
            self.assertGreater(measure_of(cutting), 580)
            other = cuttings(measure_of(cutting))[0]
            many = self.assert_within(4, how_many_words, cutting, other, 9)
            word = word_numbered(cutting, other, 9, many // 2)
            self.assert_same(word_number(cutting, word), many // 2)

    def test_wrong_arguments(self):
        length = ("length", InvalidNumber, [0, 1, 3, 60], WRONG_COUNTS)
        self.assert_refusals(how_many_words, *BOTH, length)
        self.assert_taken(how_many_words, *BOTH, length)
        numbers = WRONG_COUNTS + [3, 4, 10 ** 29]
        both = [("one", InvalidCutting, [ONE], WRONG_CUTTINGS), ("other", InvalidCutting, [OTHER], WRONG_CUTTINGS)]
        places = [*both, ("length", InvalidNumber, [3], WRONG_COUNTS), ("number", InvalidNumber, [0, 1, 2], numbers)]
        self.assert_refusals(word_numbered, *places)
        self.assert_taken(word_numbered, *places)
        for behind in ((3,), (None,), (-1,)):
            self.assert_unlike(how_many_words, *behind)
            self.assert_unlike(word_numbered, *behind, 0)
            self.assert_unlike(word_numbered, *behind, None)

    def test_wrong_words(self):
        words = [[], [(0, 1)], [(1, 1), (0, 1), (0, 1)], [(0, 1)] * 60]
        places = [("one", InvalidCutting, [ONE], WRONG_CUTTINGS), ("word", InvalidWord, words, WRONG_WORDS)]
        self.assert_refusals(word_number, *places)
        self.assert_taken(word_number, *places)

    def test_a_changed_word_is_looked_at_anew(self):
        word = [(0, 1), (0, 1), (1, 1)]
        self.assertEqual([word_number(ONE, word), is_shortest(ONE, OTHER, word)], [0, False])
        word[0:3] = [(1, 1), (0, 1), (0, 1)]
        self.assert_same(word_number(ONE, word), 1)
        del word[1:]
        self.assertEqual([word_number(ONE, word), is_shortest(ONE, OTHER, word)], [0, True])
        word[0] = (0, 2)
        self.assert_same(is_shortest(ONE, OTHER, word), False)
        self.assert_refused(InvalidWord, word, word_number, ONE, word)

    def test_equal_calls_bring_equal_results_whatever_lies_between(self):
        calls = [(shortest_word, ONE, OTHER), (how_far, ONE, OTHER), (farthest, ONE), (how_many_far, ONE),
                 (how_many_words, ONE, OTHER, 9), (word_numbered, ONE, OTHER, 9, 5),
                 (word_number, ONE, [(1, 1), (0, 1)]), (is_shortest, ONE, OTHER, [(0, 1)])]
        first = [function(*arguments) for function, *arguments in calls]
        for function, *arguments in reversed(calls):
            function(*arguments)
        self.assertTrue(same(first, [function(*arguments) for function, *arguments in calls]))
