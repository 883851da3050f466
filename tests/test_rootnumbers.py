"""[7], [8] Root numbers."""

from decimal import Decimal, localcontext
from fractions import Fraction
from itertools import product
from math import gcd, isqrt

from slitsheets.errors import InvalidMeasure, InvalidNumber, InvalidRoot
from slitsheets.rootnumbers import (
    is_root, root_floor, root_less, root_number, root_over, root_plus, root_side, root_times)
from support import Case, any_values, wrong_measures, wrong_numbers

GREAT = 10 ** 22 + 7
MEASURES = [5, 8, 9, 12, 13, 16, 17, 20, 25, 21, 999999999999, 10 ** 12, 10 ** 29 + 4, (10 ** 15 - 1) ** 2,
            (10 ** 15 - 1) ** 2 - 4, (10 ** 15 - 1) ** 2 + 4, (10 ** 14) ** 2, (10 ** 14) ** 2 + 1, (10 ** 14) ** 2 - 4]
MEASURES = [measure for measure in MEASURES if measure % 4 < 2]
PARTS = [0, 1, -1, 2, -3, 7, 12, -60, GREAT, 3 - GREAT]
BELOWS = [1, 2, 3, 12, GREAT + 2, -1, -4, -GREAT]

MEASURE = ("measure", InvalidMeasure, [5, 8, 17, 10 ** 29 + 1], wrong_measures())
WRONG_ROOTS = any_values() + [
    5, 0, (2, 2, 4), (0, 0, 2), (0, 0, 0), (1, 1, 0), (1, 1, -2), (-1, 0, -1), (4, 0, 2), (0, 4, 2), (3, 6, 9),
    (1, 1), (1, 1, 2, 1), [1, 1, 2], (True, 1, 2), (1, True, 2), (1, 1, True), (False, 1, 2), (1, False, 2),
    (None, 1, 2), (1, None, 2), (1, 1, None), ("1", 1, 2), (1, [1], 2), (1, 1, (2,)), ((1, 1, 2),), (1, 1, {2: 2}),
    (10 ** 25 * 2, 10 ** 25 * 4, 6), (0, 1, 1, -1), ((1, 1, 2), (1, 1, 2), (1, 1, 2))]
ROOTS = [(1, 1, 2), (0, 0, 1), (-3, 0, 2), (GREAT, -GREAT + 1, 10 ** 20)]
ONE = ("one", InvalidRoot, ROOTS, WRONG_ROOTS)
OTHER = ("other", InvalidRoot, ROOTS, WRONG_ROOTS)
ROOT = ("root", InvalidRoot, ROOTS, WRONG_ROOTS)


def pair(measure, root):
    """A root number as two fractions, p and q of p + q times the root; one of them 0 if the root is whole."""
    x, y, below = root
    return whole_counted_in(measure, Fraction(x, below), Fraction(y, below))


def whole_counted_in(measure, p, q):
    if isqrt(measure) ** 2 == measure:
        return p + q * isqrt(measure), Fraction(0)
    return p, q


def some_roots(measure):
    parts = [0, 1, -2, 15, GREAT, -GREAT]
    found = [root_number(measure, x, y, below) for x in parts for y in parts for below in (1, 2, 10 ** 21 + 3)]
    return sorted(set(found))[::5] + [(0, 0, 1), (1, 0, 1)]


def convergents(measure, figures):
    """Whole x and y, ever greater, with x / y ever nearer to the root, by turns above and below it."""
    root = isqrt(measure)
    m, d, a = 0, 1, root
    (x, y), (before_x, before_y) = (root, 1), (1, 0)
    found = []
    while x < 10 ** figures:
        found.append((x, y))
        m = d * a - m
        d = (measure - m * m) // d
        a = (root + m) // d
        x, before_x = a * x + before_x, x
        y, before_y = a * y + before_y, y
    return found


def decimal_value(measure, root):
    x, y, below = root
    return (Decimal(x) + Decimal(y) * Decimal(measure).sqrt()) / Decimal(below)


class Judged(Case):

    def test_is_root_against_its_words(self):
        for measure in (5, 8, 9, 16, 25):
            whole = isqrt(measure) ** 2 == measure
            for x, y, below in product(range(-6, 7), range(-6, 7), range(-3, 7)):
                divisors = [n for n in range(2, 8) if x % n == 0 and y % n == 0 and below % n == 0]
                meant = below >= 1 and not divisors and (y == 0 or not whole)
                self.assert_same(is_root(measure, (x, y, below)), meant)

    def test_is_root_of_great_numbers(self):
        great = 10 ** 29 + 1
        self.assert_same(is_root(great, (GREAT, GREAT + 1, 10 ** 28)), True)
        self.assert_same(is_root(great, (GREAT * 3, GREAT * 6, 10 ** 28 * 3)), False)
        self.assert_same(is_root(10 ** 28, (0, 1, 1)), False)
        self.assert_same(is_root(10 ** 28 + 1, (0, 1, 1)), True)
        self.assert_same(is_root(10 ** 28 - 4, (0, 1, 1)), True)
        self.assert_same(is_root(10 ** 28, (GREAT, 0, 10)), True)

    def test_is_root_takes_any_value(self):
        for measure in (5, 9, 10 ** 29 + 1):
            self.assert_judged_false(WRONG_ROOTS, is_root, measure)
        self.assert_same(is_root(measure=5, value=(1, 1, 2)), True)
        for value in [(1, 1, 2), (0, 1, 1), (0, -1, 3)]:
            self.assert_same([is_root(5, value), is_root(9, value)], [True, False])

    def test_is_root_checks_the_measure_first(self):
        for measure in wrong_measures():
            for value in [(1, 1, 2), None, [], (2, 2, 4), measure]:
                self.assert_refused(InvalidMeasure, measure, is_root, measure, value)


class Made(Case):

    def test_root_number_in_least_terms(self):
        for measure in MEASURES:
            for x, y, below in product(PARTS, PARTS, BELOWS):
                told = root_number(measure, x, y, below)
                self.assertTrue(is_root(measure, told))
                self.assertEqual([type(item) for item in told], [int, int, int])
                meant = whole_counted_in(measure, Fraction(x, below), Fraction(y, below))
                self.assertEqual(pair(measure, told), meant)

    def test_nought_has_one_name(self):
        for measure in MEASURES:
            for below in BELOWS:
                self.assert_same(root_number(measure, 0, 0, below), (0, 0, 1))
        self.assert_same(root_number(9, 3, -1, 7), (0, 0, 1))

    def test_whole_roots_are_counted_in(self):
        self.assert_same(root_number(16, 0, 1, 1), (4, 0, 1))
        self.assert_same(root_number(25, 1, -1, 6), (-2, 0, 3))
        self.assert_same(root_number(10 ** 28, 1, 1, -2), (-(10 ** 14) - 1, 0, 2))

    def test_wrong_arguments(self):
        number = [3, 0, -7, 10 ** 29]
        below = [2, -1, 10 ** 29]
        places = [MEASURE, ("x", InvalidNumber, number, wrong_numbers()), ("y", InvalidNumber, number, wrong_numbers()),
                  ("below", InvalidNumber, below, wrong_numbers() + [0])]
        self.assert_refusals(root_number, *places)
        self.assert_taken(root_number, *places)

    def test_nought_below_is_looked_at_behind_the_kinds(self):
        self.assert_refused(InvalidNumber, None, root_number, 5, None, 1, 0)
        self.assert_refused(InvalidNumber, "y", root_number, 5, 1, "y", 0)
        self.assert_refused(InvalidNumber, 0, root_number, 5, 0, 0, 0)
        self.assert_refused(InvalidNumber, 0, root_number, 9, 1, 1, 0)


class Reckoned(Case):

    def test_sums_differences_products_and_quotients(self):
        for measure in MEASURES:
            roots = some_roots(measure)
            for one, other in product(roots, roots):
                (p, q), (s, t) = pair(measure, one), pair(measure, other)
                self.check(measure, root_plus(measure, one, other), p + s, q + t)
                self.check(measure, root_less(measure, one, other), p - s, q - t)
                self.check(measure, root_times(measure, one, other), p * s + measure * q * t, p * t + q * s)
                if other != (0, 0, 1):
                    norm = s * s - measure * t * t
                    self.check(measure, root_over(measure, one, other),
                               (p * s - measure * q * t) / norm, (q * s - p * t) / norm)

    def check(self, measure, told, p, q):
        self.assertTrue(is_root(measure, told))
        self.assertEqual([type(item) for item in told], [int, int, int])
        self.assertEqual(pair(measure, told), (p, q))

    def test_each_undoes_another(self):
        for measure in (5, 9, 10 ** 29 + 1, 10 ** 28, 10 ** 28 - 4):
            roots = some_roots(measure)
            for one, other in product(roots, roots):
                self.assert_same(root_less(measure, root_plus(measure, one, other), other), one)
                if other != (0, 0, 1):
                    self.assert_same(root_over(measure, root_times(measure, one, other), other), one)
                    self.assert_same(root_over(measure, other, other), (1, 0, 1))

    def test_results_may_be_handed_on(self):
        root = (GREAT, 1, 3)
        for _ in range(6):
            root = self.assert_within(2, root_times, 10 ** 29 + 1, root, root)
        self.assertTrue(is_root(10 ** 29 + 1, root))
        self.assert_same(root_over(10 ** 29 + 1, root, root), (1, 0, 1))

    def test_wrong_arguments(self):
        for function in (root_plus, root_less, root_times, root_over):
            other = ("other", InvalidRoot, [root for root in ROOTS if root != (0, 0, 1)], WRONG_ROOTS)
            self.assert_refusals(function, MEASURE, ONE, other)
            self.assert_taken(function, MEASURE, ONE, other)
        for function in (root_plus, root_less, root_times):
            self.assert_taken(function, MEASURE, ONE, OTHER)

    def test_division_by_nought(self):
        nought = tuple([0, 0, 1])
        for measure in (5, 9, 10 ** 29 + 1):
            for one in [(1, 0, 2), (0, 0, 1)]:
                self.assert_refused(InvalidRoot, nought, root_over, measure, one, nought)
        self.assert_refused(InvalidRoot, (2, 2, 4), root_over, 5, (2, 2, 4), nought)
        self.assert_refused(InvalidMeasure, 6, root_over, 6, (1, 0, 1), nought)
        self.assert_same(root_over(5, nought, (1, 1, 2)), (0, 0, 1))

    def test_multiples_of_a_whole_root_are_refused(self):
        for measure in (9, 16, 10 ** 28):
            bad, good = (1, 1, 2), (1, 0, 2)
            for function in (root_plus, root_less, root_times, root_over):
                self.assert_refused(InvalidRoot, bad, function, measure, bad, good)
                self.assert_refused(InvalidRoot, bad, function, measure, good, bad)
            for function in (root_side, root_floor):
                self.assert_refused(InvalidRoot, bad, function, measure, bad)


class SideAndFloor(Case):

    def test_small_root_numbers(self):
        with localcontext() as context:
            context.prec = 60
            for measure in (5, 8, 9, 12, 13, 16, 17, 20, 21, 24, 25):
                for x, y, below in product(range(-9, 10), range(-5, 6), (1, 2, 3, 7)):
                    if is_root(measure, (x, y, below)):
                        self.check_by_decimals(measure, (x, y, below))

    def test_great_root_numbers(self):
        with localcontext() as context:
            context.prec = 250
            for measure in MEASURES:
                for root in some_roots(measure):
                    self.check_by_decimals(measure, root)

    def check_by_decimals(self, measure, root):
        value = decimal_value(measure, root)
        side = 0 if root == (0, 0, 1) else 1 if value > 0 else -1
        self.assert_same(root_side(measure, root), side)
        floor = root_floor(measure, root)
        self.assertIs(type(floor), int)
        self.assertTrue(floor <= value < floor + 1, (measure, root, floor))

    def test_very_near_to_nought(self):
        for measure in (5, 8, 12, 13, 21, 29, 61, 10 ** 12 - 3 * 4, 10 ** 28 + 1, 10 ** 28 - 4, 10 ** 29 + 1):
            for x, y in convergents(measure, 45):
                side = 1 if x * x > measure * y * y else -1
                self.assert_same(root_side(measure, (x, -y, 1)), side)
                self.assert_same(root_side(measure, (-x, y, 1)), -side)
                self.assert_same(root_side(measure, (x, y, 1)), 1)
                self.assert_same(root_side(measure, (-x, -y, 3)), -1)
                self.assert_same(root_floor(measure, (x, -y, 1)), 0 if side > 0 else -1)
                self.assert_same(root_floor(measure, (-x, y, 1)), -1 if side > 0 else 0)

    def test_very_near_to_a_whole_number(self):
        for measure in (5, 8, 13, 61, 10 ** 28 + 1, 10 ** 28 - 4):
            for x, y in convergents(measure, 40)[3:]:
                side = 1 if x * x > measure * y * y else -1
                for whole, below in product((1, -1, 12345, 10 ** 21, -(10 ** 21)), (1, 2, 7)):
                    near = root_number(measure, x + whole * below, -y, below)
                    self.assert_same(root_floor(measure, near), whole if side > 0 else whole - 1)
                    self.assert_same(root_side(measure, near), 1 if whole > 0 else -1)

    def test_whole_numbers_and_fractions(self):
        for measure in (5, 9, 10 ** 28):
            for number in (0, 1, -1, 10 ** 29, -(10 ** 29)):
                self.assert_same(root_floor(measure, (number, 0, 1)), number)
            self.assert_same([root_floor(measure, (x, 0, 2)) for x in (-3, -1, 1, 3)], [-2, -1, 0, 1])
            self.assert_same([root_side(measure, (x, 0, 1)) for x in (-(10 ** 29), -1, 0, 1)], [-1, -1, 0, 1])

    def test_next_to_whole_roots(self):
        for root in (10 ** 14, 10 ** 15 - 1, 10 ** 14 + 1):
            for measure in (root * root - 4, root * root + 4, root * root + 1):
                if measure % 4 < 2:
                    side = 1 if measure > root * root else -1
                    self.assert_same(root_side(measure, (-root, 1, 1)), side)
                    self.assert_same(root_floor(measure, (0, 1, 1)), root if side > 0 else root - 1)
                    self.assert_same(root_floor(measure, (0, -1, 1)), -root - 1 if side > 0 else -root)
                    self.assert_same(root_floor(measure, (-root, 1, 10 ** 29)), 0 if side > 0 else -1)

    def test_wrong_arguments(self):
        for function in (root_side, root_floor):
            self.assert_refusals(function, MEASURE, ROOT)
            self.assert_taken(function, MEASURE, ROOT)

    def test_the_terms_are_least(self):
        self.assertEqual(gcd(*root_number(5, 10 ** 29, 10 ** 28, 10 ** 27)), 1)
