"""[31], [32] Paths: how often they cross, and the root's work on them."""

import random
from fractions import Fraction
from itertools import product

from slitsheets.cuttings import measure_of
from slitsheets.errors import InvalidCutting, InvalidList
from slitsheets.paths import crossing, root_path
from plain import SEARCHED
from plain_sheets import Surd
from support import WRONG_CUTTINGS, Case, any_values, nested
from test_deeds import GREAT_CUTTINGS

BASE = [[1, 0, 0, 0], [0, 1, 0, 0], [0, 0, 1, 0], [0, 0, 0, 1]]
GOOD_PATHS = [[1, 2, 3, 4], [0, 0, 0, 0], [-5, 0, 7, 10 ** 29], [-(10 ** 29), 1, 1, -1]]
# Of any values, the list [0, 1, 1, -1] is a path.
WRONG_PATHS = [value for value in any_values() if value != [0, 1, 1, -1]] + [
    0, 4, (1, 0, 0, 0), [1, 0, 0], [1, 0, 0, 0, 0], [[1, 0, 0, 0]], ([1, 0, 0, 0],), [True, 0, 0, 0], [0, False, 0, 0],
    [0, 0, True, 0], [0, 0, 0, False], [True] * 4, [None, 0, 0, 0], [0, "0", 0, 0], [0, 0, [0], 0], [0, 0, 0, (0,)],
    ["1", "0", "0", "0"], {0: 1, 1: 0, 2: 0, 3: 0}, "1000", [nested(29), 0, 0, 0], [InvalidList(), 0, 0, 0],
    InvalidList([1, 0, 0, 0]), [{}, {}, {}, {}], (0, 1, 1, -1), list(BASE)]
CUTTING = ("cutting", InvalidCutting, [(1, 2, 2, -1), (0, 1, 1, -1)], WRONG_CUTTINGS)
PATH = ("path", InvalidList, GOOD_PATHS, WRONG_PATHS)


def added(one, other, times=1):
    return [one[k] + times * other[k] for k in range(4)]


def plain_root_path(cutting, path):
    """The sum of what [32] tells of the base paths."""
    a, b, c, e = cutting
    told = [[e, 0, c, 0], [0, e, -a, b], [b, 0, 0, 0], [a, c, 0, 0]]
    found = [0, 0, 0, 0]
    for k in range(4):
        found = added(found, told[k], path[k])
    return found


def plain_vector(cutting, path):
    """The vector of a path, as [39] tells it."""
    a, b, c, e = cutting
    measure = measure_of(cutting)
    side = Surd(measure, Fraction(e, 2), Fraction(1, 2))
    return side * path[0] + b * path[2] + a * path[3], side * path[1] + c * path[3]


class Crossing(Case):

    def test_base_paths(self):
        for x, y in product(range(4), repeat=2):
            meant = {(0, 1): 1, (1, 0): -1, (2, 3): 1, (3, 2): -1}.get((x, y), 0)
            self.assert_same(crossing(BASE[x], BASE[y]), meant)

    def test_of_sums_and_great_paths(self):
        rng = random.Random(31)
        for bound in [3, 50, 10 ** 29] * 40:
            one, other, third = ([rng.randrange(-bound, bound + 1) for _ in range(4)] for _ in range(3))
            meant = sum(one[x] * other[y] * crossing(BASE[x], BASE[y]) for x in range(4) for y in range(4))
            self.assert_same(crossing(one, other), meant)
            self.assert_same(crossing(other, one), -meant)
            self.assert_same(crossing(one, one), 0)
            self.assert_same(crossing(added(one, third, 5), other), meant + 5 * crossing(third, other))

    def test_wrong_arguments(self):
        places = [("one", InvalidList, GOOD_PATHS, WRONG_PATHS), ("other", InvalidList, GOOD_PATHS, WRONG_PATHS)]
        self.assert_refusals(crossing, *places)
        self.assert_taken(crossing, *places)

    def test_the_first_path_that_is_none_is_refused(self):
        for one, other in product(WRONG_PATHS[::3], WRONG_PATHS[1::3]):
            self.assert_refused(InvalidList, one, crossing, one, other)
        twin = [1, 0, 0, True]
        self.assert_refused(InvalidList, twin, crossing, twin, [1, 0, 0, True])
        self.assert_refused(InvalidList, twin, crossing, [1, 0, 0, 1], twin)


class RootPath(Case):

    def test_of_small_cuttings(self):
        rng = random.Random(32)
        for told in SEARCHED.values():
            for cutting in told:
                for path in BASE + [[rng.randrange(-9, 10) for _ in range(4)] for _ in range(2)]:
                    self.assert_root_path(cutting, path, [rng.randrange(-9, 10) for _ in range(4)])

    def test_of_great_cuttings(self):
        rng = random.Random(33)
        for cutting in GREAT_CUTTINGS + [(0, 10 ** 30 - 1, 10 ** 30 - 3, 1)]:
            for path in BASE + [[rng.randrange(-(10 ** 30), 10 ** 30) for _ in range(4)] for _ in range(5)]:
                self.assert_within(1, root_path, cutting, path)
                self.assert_root_path(cutting, path, [rng.randrange(-(10 ** 29), 10 ** 29) for _ in range(4)])

    def assert_root_path(self, cutting, path, other):
        _, b, c, e = cutting
        told = root_path(cutting, path)
        self.assert_same(told, plain_root_path(cutting, path))
        side = Surd(measure_of(cutting), Fraction(e, 2), Fraction(1, 2))
        self.assertEqual(plain_vector(cutting, told), tuple(item * side for item in plain_vector(cutting, path)))
        twice = root_path(cutting, told)
        self.assert_same(twice, added([e * item for item in told], path, b * c))
        self.assert_same(crossing(told, other), crossing(path, root_path(cutting, other)))
        self.assert_same(crossing(path, other), -crossing(other, path))

    def test_wrong_arguments(self):
        self.assert_refusals(root_path, CUTTING, PATH)
        self.assert_taken(root_path, CUTTING, PATH)

    def test_a_list_is_new_and_a_changed_one_is_looked_at_anew(self):
        path = [1, 0, 0, 0]
        told = root_path((0, 1, 1, -1), path)
        self.assert_same(told, [-1, 0, 1, 0])
        self.assertIsNot(root_path((0, 1, 1, -1), path), told)
        path[1] = 2
        self.assert_same([told, root_path((0, 1, 1, -1), path)], [[-1, 0, 1, 0], [-1, -2, 1, 2]])
        self.assert_same(crossing(path, path[::-1]), 0)
        told.append(7)
        self.assert_same(root_path((0, 1, 1, -1), path), [-1, -2, 1, 2])
        path.append(0)
        self.assert_refused(InvalidList, path, root_path, (0, 1, 1, -1), path)
        self.assert_refused(InvalidList, path, crossing, path, path)
        zero = [0, 0, 0, 0]
        self.assertIsNot(root_path((0, 1, 1, -1), zero), zero)
        self.assert_same(root_path((0, 1, 1, -1), zero), zero)

    def test_equal_calls_bring_equal_results_whatever_lies_between(self):
        calls = [(crossing, [1, 2, 3, 4], [4, 3, 2, 1]), (root_path, (1, 2, 2, -1), [1, 2, 3, 4]),
                 (root_path, (0, 1, 1, -1), [1, 2, 3, 4])]
        self.assert_repeated(calls)
