"""[42] to [48] Floors of squares: judged, named, led, counted, their bands, cuttings and half turns."""

import random
from itertools import permutations, product
from math import factorial, gcd

from slitsheets.cuttings import cuttings, measure_of
from slitsheets.errors import InvalidCutting, InvalidFloor, InvalidNumber, InvalidWord
from slitsheets.floors import (
    bands, cutting_of, floor_led, floor_with, floor_word, floors_joined, floors_of, half_turn, how_many_floors,
    how_many_with, is_floor, middles, named, sheared, turned)
from slitsheets.lots import joined, sign
from support import WRONG_CUTTINGS, Case, any_values, copied, nested, wrong_numbers

THREE, LONG = ([1, 0, 2], [2, 1, 0]), ([1, 2, 3, 4, 0], [4, 1, 2, 3, 0])
TEN = floor_with((0, 24, 1, -2))
GOOD_FLOORS = [THREE, LONG, TEN]
WRONG_FLOORS = any_values() + [
    0, 3, [[1, 0, 2], [2, 1, 0]], ([1, 0, 2],), ([1, 0, 2], [2, 1, 0], [0, 1, 2]), ((1, 0, 2), (2, 1, 0)),
    ([1, 0, 2], (2, 1, 0)), ([1, 0, 2], None), (None, [2, 1, 0]), ([1, 0, 2], [2, 1]), ([1, 0], [2, 1, 0]),
    ([1, 0, 2], [2, 1, 0, 3]), ([1, 0, 2], [2, 1, 1]), ([1, 0, 3], [2, 1, 0]), ([2, 1, 3], [3, 2, 1]),
    ([-1, 0, 1], [1, 0, -1]), ([True, 0, 2], [2, 1, 0]), ([1, False, 2], [2, 1, 0]), ([1, 0, 2], [2, True, 0]),
    ([1, 0, 2], [2, 1, False]), ([1, None, 2], [2, 1, 0]), ([1, "0", 2], [2, 1, 0]), ([1, [0], 2], [2, 1, 0]),
    ([1, 0, (2,)], [2, 1, 0]), ([1, 0, {}], [2, 1, 0]), ([1, 0, nested(28)], [2, 1, 0]), ([], []), ([0], [0]),
    ([1, 0], [0, 1]), ([0, 1, 2], [0, 1, 2]), ([1, 2, 0], [1, 2, 0]), ([1, 2, 0], [2, 0, 1]), ([1, 0, 2], [1, 0, 2]),
    # Not all in one, not just three squares that are apart, and not all pairs.
    ([1, 0, 2, 3], [2, 1, 0, 3]), ([1, 0, 2, 3], [2, 3, 0, 1]), ([1, 2, 3, 0, 5, 4], [4, 5, 2, 3, 0, 1]),
    ([1, 2, 3, 0], [1, 0, 3, 2]), ("102", "210"), ({1: 0}, {0: 1}), {0: [1, 0, 2], 1: [2, 1, 0]},
    InvalidFloor(([1, 0, 2], [2, 1, 0])), (InvalidFloor(), InvalidFloor()), ([10 ** 29, 0, 2], [2, 1, 0]),
    ([1, 2, 3, 4, 5, 6, 7, 8, 9, 10, 0], [10, 1, 2, 3, 4, 5, 6, 7, 8, 9, 0])]
WRONG_WORDS = [value for value in any_values() if value != ""] + [
    0, ["s"], ("s", "t"), "x", "S", "st ", " ", "s\n", "stt?", "s" * 1001, "st" * 500 + "s", "s" * 1000 + "x", ["st"],
    {"s": "t"}, InvalidWord("st")]
GOOD_WORDS = ["", "s", "t", "st", "tsstt", "st" * 500, "t" * 1000]
NO_SIDES = wrong_numbers() + [2, 1, 0, -3, -8]
FLOOR = ("floor", InvalidFloor, GOOD_FLOORS, WRONG_FLOORS)


def inverse(numbering):
    return [numbering.index(square) for square in range(len(numbering))]


def relabelled(floor, numbers):
    """The same floor with other numbers."""
    right, up = floor
    back = inverse(numbers)
    return tuple([numbers[side[back[square]]] for square in range(len(right))] for side in (right, up))


def laid_of_stones(floor, wide, high):
    """The floor with stones, each of so many squares side by side and above one another, instead of its squares."""
    right, up = floor
    places = [(stone, x, y) for stone in range(len(right)) for x in range(wide) for y in range(high)]
    return ([places.index((stone, x + 1, y) if x + 1 < wide else (right[stone], 0, y)) for stone, x, y in places],
            [places.index((stone, x, y + 1) if y + 1 < high else (up[stone], x, 0)) for stone, x, y in places])


def plain_rounds(right, up):
    """Whether the pairs of the walks from square 0 back to it are all pairs; None unless walks lead everywhere."""
    ways = {0: (0, 0)}
    queue = [0]
    pairs = []
    for square in queue:
        x, y = ways[square]
        for other, there in ((right[square], (x + 1, y)), (inverse(right)[square], (x - 1, y)),
                             (up[square], (x, y + 1)), (inverse(up)[square], (x, y - 1))):
            if other in ways:
                pairs.append((there[0] - ways[other][0], there[1] - ways[other][1]))
            else:
                ways[other] = there
                queue.append(other)
    if len(ways) < len(right):
        return None
    # Euclid on the pairs, until all are multiples of two.
    height, wide = (0, 0), 0
    for pair in pairs:
        one, other = height, pair
        while other[1]:
            times = one[1] // other[1]
            one, other = other, (one[0] - times * other[0], one[1] - times * other[1])
        height, wide = one, gcd(wide, other[0])
    return abs(height[1]) == 1 and wide == 1


def plain_is_floor(right, up):
    apart = [s for s in range(len(right)) if up[right[s]] != right[up[s]]]
    return len(apart) == 3 and plain_rounds(right, up) is True


def plain_named(floor):
    """The first, in order, of the floors that come when any square gets the number 0, as [42] tells."""
    right, up = floor
    found = []
    for start in range(len(right)):
        numbers = {start: 0}
        for number in range(len(right)):
            square = [s for s in numbers if numbers[s] == number][0]
            for other in (right[square], up[square]):
                numbers.setdefault(other, len(numbers))
        found.append(relabelled(floor, [numbers[s] for s in range(len(right))]))
    return sorted(found)[0]


def plain_led(floor, letter):
    right, up = floor
    left = inverse(right)
    return (list(right), [up[left[s]] for s in range(len(up))]) if letter == "s" else (list(up), left)


def cycle_types(n, most=None):
    if n == 0:
        return [[]]
    return [[first] + rest for first in range(min(n, most or n), 0, -1) for rest in cycle_types(n - first, first)]


def all_floors(n):
    """One floor of each kind of alike ones, by trying all lists up with one list right for each way of rings; the
    number of all floors with any numbers."""
    found, many = set(), 0
    for lengths in cycle_types(n):
        right, start, size = list(range(n)), 0, factorial(n)
        for length in lengths:
            right[start:start + length] = [*range(start + 1, start + length), start]
            start, size = start + length, size // length
        for length in set(lengths):
            size //= factorial(lengths.count(length))
        for up in permutations(range(n)):
            if plain_is_floor(right, up):
                many += size
                name = plain_named((right, list(up)))
                found.add((tuple(name[0]), tuple(name[1])))
    return sorted((list(right), list(up)) for right, up in found), many


def floors_led(floor):
    """The names of all floors to which words lead one, with the fewest signs that do it."""
    far = {key(plain_named(floor)): 0}
    queue = [plain_named(floor)]
    for here in queue:
        for letter in "st":
            there = plain_named(plain_led(here, letter))
            if key(there) not in far:
                far[key(there)] = far[key(here)] + 1
                queue.append(there)
    return far


def key(floor):
    return tuple(map(tuple, floor))


def some_floors(n, rng, many):
    """Floors of n squares of all kinds, with any numbers."""
    told = cuttings(n * n)
    for _ in range(many):
        floor = floor_with(rng.choice(told))
        for letter in rng.choices("st", k=rng.randrange(8)):
            floor = plain_led(floor, letter)
        yield relabelled(floor, rng.sample(range(n), n))


def plain_rows(floor):
    right, _ = floor
    rows = set()
    for square in range(len(right)):
        row = [square]
        while right[row[-1]] != square:
            row.append(right[row[-1]])
        rows.add(frozenset(row))
    return rows


def plain_bands(floor):
    """The bands as lists of rows, by joining rows as long as there are some to join."""
    _, up = floor
    parts = [[row] for row in plain_rows(floor)]
    while True:
        pairs = [(one, other) for one in parts for other in parts if one is not other and any(
            frozenset(up[s] for s in row) in other for row in one)]
        if not pairs:
            return sorted(parts, key=lambda part: (len(part[0]), len(part)))
        one, other = pairs[0]
        parts = [part for part in parts if part is not one and part is not other] + [one + other]


def plain_cutting(floor):
    """The cutting of a floor, word by word as [45] tells it."""
    right, up = floor
    parts = plain_bands(floor)
    if len(parts) == 1:
        return None
    n, left, below = len(right), inverse(right), inverse(up)
    (w1, h1), (w2, h2) = [(len(part[0]), len(part)) for part in parts]
    low, high = [frozenset().union(*part) for part in parts]
    marked = [s for s in range(n) if left[below[s]] != below[left[s]]]
    assert len(marked) == 3 and w1 < w2
    inner, = [s for s in marked if s in low]
    outer, = [s for s in marked if s in high and below[s] in low]

    def there(square, steps, height):
        for _ in range(steps):
            square = right[square]
        for _ in range(height):
            square = up[square]
        return square

    t1, = [t for t in range(w1) if there(inner, t, h1) in marked]
    t2, = [t for t in range(w2) if there(outer, t, h2) == inner]
    b, c = h1 * w2, w1 * h2
    return (h1 * t2 - t1 * h2) % gcd(b, c), b, c, 2 * w1 * h1 - n


class Judged(Case):

    def test_all_pairs_of_lists_of_three_and_four(self):
        for n, meant in ((3, 3), (4, 9)):
            many = 0
            for right, up in product(permutations(range(n)), repeat=2):
                told = is_floor((list(right), list(up)))
                self.assert_same(told, plain_is_floor(right, up))
                many += told
            self.assertEqual(many, meant * factorial(n))

    def test_lists_of_any_size(self):
        rng = random.Random(42)
        for n in range(3, 11):
            for floor in some_floors(n, rng, 12):
                self.assert_same(is_floor(floor), True)
                self.assertTrue(plain_is_floor(*floor))
            for _ in range(60):
                right, up = rng.sample(range(n), n), rng.sample(range(n), n)
                self.assert_same(is_floor((right, up)), plain_is_floor(right, up))

    def test_three_corner_squares_but_not_all_pairs(self):
        rng = random.Random(41)
        for n, wide, high in ((3, 2, 1), (3, 1, 2), (4, 2, 1), (4, 1, 2), (5, 2, 1), (5, 1, 2), (3, 3, 1), (3, 1, 3)):
            for floor in some_floors(n, rng, 40):
                stones = laid_of_stones(floor, wide, high)
                for letter in rng.choices("st", k=rng.randrange(9)):
                    stones = plain_led(stones, letter)
                right, up = relabelled(stones, rng.sample(range(n * wide * high), n * wide * high))
                self.assertEqual(len([s for s in right if up[right[s]] != right[up[s]]]), 3)
                self.assertIs(plain_rounds(right, up), False)
                self.assert_same(is_floor((right, up)), False)

    def test_six_squares_with_the_lists_of_all_kinds(self):
        for right in ([1, 2, 3, 4, 5, 0], [1, 2, 3, 0, 5, 4], [1, 2, 0, 4, 5, 3], [1, 0, 3, 2, 4, 5], [1, 2, 3, 4, 0, 5]):
            for up in permutations(range(6)):
                self.assert_same(is_floor((right, list(up))), plain_is_floor(right, up))

    def test_three_to_ten_squares(self):
        for n in range(2, 13):
            floor = ([*range(1, n), 0], [n - 1, *range(1, n - 1), 0])
            self.assert_same(is_floor(floor), 3 <= n <= 10)
            if not 3 <= n <= 10:
                for function in (named, sheared, turned, bands, cutting_of, half_turn, middles):
                    self.assert_refused(InvalidFloor, floor, function, floor)

    def test_any_value_is_judged(self):
        self.assert_judged_false(WRONG_FLOORS, is_floor)
        for floor in GOOD_FLOORS:
            self.assert_same(is_floor(value=floor), True)
        same_list = [1, 2, 0]
        self.assert_same(is_floor((same_list, same_list)), False)


class Named(Case):

    def test_names_tell_alike_floors(self):
        rng = random.Random(43)
        for n in range(3, 11):
            told = {}
            for floor in some_floors(n, rng, 15):
                name = named(floor)
                self.assert_same(name, plain_named(floor))
                self.assert_same(named(name), name)
                self.assert_same(named(relabelled(floor, rng.sample(range(n), n))), name)
                told.setdefault(key(name), floor)
            for one, other in product(told.values(), repeat=2):
                alike = any(relabelled(one, numbers) == other for numbers in permutations(range(n))) if n < 6 else None
                if alike is not None:
                    self.assertEqual(alike, named(one) == named(other))

    def test_sheared_and_turned(self):
        rng = random.Random(44)
        for n in range(3, 11):
            for floor in some_floors(n, rng, 10):
                right, up = floor
                told = sheared(floor)
                self.assert_same(told, plain_led(floor, "s"))
                self.assertTrue(is_floor(told) and all(told[1][right[s]] == up[s] for s in range(n)))
                told = turned(floor)
                self.assert_same(told, plain_led(floor, "t"))
                self.assertTrue(is_floor(told) and all(told[1][right[s]] == s for s in range(n)))
                self.assert_same(turned(turned(turned(turned(floor)))), floor)
                letters = "".join(rng.choices("st", k=12))
                here = floor
                for at, letter in enumerate(letters):
                    self.assert_same(floor_led(floor, letters[:at]), named(here))
                    here = sheared(here) if letter == "s" else turned(here)
                self.assert_same(floor_led(floor, letters), named(here))

    def test_long_words(self):
        rng = random.Random(45)
        for floor in GOOD_FLOORS:
            letters = "".join(rng.choices("st", k=1000))
            here = floor
            for letter in letters:
                here = plain_led(here, letter)
            self.assert_same(self.assert_within(2, floor_led, floor, letters), plain_named(here))
            for longer in (letters + "s", letters + "t", letters * 2):
                self.assert_refused(InvalidWord, longer, floor_led, floor, longer)

    def test_wrong_arguments(self):
        for function in (named, sheared, turned, bands, cutting_of, half_turn, middles):
            self.assert_refusals(function, FLOOR)
            self.assert_taken(function, FLOOR)
        word = ("word", InvalidWord, GOOD_WORDS, WRONG_WORDS)
        self.assert_refusals(floor_led, FLOOR, word)
        self.assert_taken(floor_led, FLOOR, word)

    def test_lists_are_new_and_changed_ones_are_looked_at_anew(self):
        floor = copied(THREE)
        for value in (floor, named(THREE), LONG, TEN):
            for function in (named, sheared, turned, bands, half_turn):
                self.assert_own_lists(function, value)
            self.assert_own_lists(floor_led, value, "")
            self.assert_own_lists(floor_led, value, "stt")
        self.assert_same(bands(floor), [(1, 1), (2, 1)])
        floor[1][:] = [1, 2, 0]
        self.assert_same([is_floor(floor), bands(floor)], [True, [(1, 1), (2, 1)]])
        self.assert_same(named(floor), named(sheared(THREE)))
        floor[1][0] = 2
        self.assert_same(is_floor(floor), False)
        self.assert_refused(InvalidFloor, floor, named, floor)


class Counted(Case):

    def test_all_floors_of_a_size(self):
        for n in (3, 4, 5, 6):
            told, many = all_floors(n)
            self.assert_same(self.assert_within(3, floors_of, n), told)
            self.assert_same(how_many_floors(n), len(told))
            # No floor is alike to itself in two ways: with other numbers each one comes just so often.
            self.assertEqual(many, len(told) * factorial(n))

    def test_seven_and_eight_squares(self):
        for n, meant in ((7, 90), (8, 108)):
            told = self.assert_within(5, floors_of, n)
            self.assertEqual([len(told), sorted(told), how_many_floors(n)], [meant, told, meant])
            self.assertEqual(len({key(floor) for floor in told}), meant)
            for floor in told:
                self.assertTrue(plain_is_floor(*floor))
                self.assert_same(named(floor), floor)
                for letter in "st":
                    self.assertIn(plain_named(plain_led(floor, letter)), told)

    def test_each_floor_is_led_to_two_bands(self):
        for n in range(3, 9):
            for floor in floors_of(n):
                self.assertTrue([led for led in floors_led(floor) if len(plain_bands(led)) == 2])

    def test_how_many(self):
        numbers = [*range(3, 300), 1000, 1001, 1024, 9973, 30030, 65536, 510510, 720720, 999983, 999999, 1000000]
        for n in numbers:
            primes = [p for p in range(2, n + 1) if n % p == 0 and all(p % d for d in range(2, min(p, 1100)))]
            many = 3 * (n - 2) * n * n
            for p in primes:
                self.assertEqual(many * (p * p - 1) % (p * p), 0)
                many = many * (p * p - 1) // (p * p)
            self.assert_same(self.assert_within(1, how_many_floors, n), many // 8)
            self.assertEqual(many % 8, 0)

    def test_own_lists(self):
        for n in range(3, 9):
            self.assert_own_lists(floors_of, n)

    def test_wrong_arguments(self):
        many = ("n", InvalidNumber, [3, 8, 10, 1000000], NO_SIDES + [1000001, 10 ** 29, -(10 ** 29)])
        self.assert_refusals(how_many_floors, many)
        self.assert_taken(how_many_floors, many)
        few = ("n", InvalidNumber, [3, 4, 8], NO_SIDES + [9, 10, 1000, 10 ** 29, -(10 ** 29)])
        self.assert_refusals(floors_of, few)
        self.assert_taken(floors_of, few)


class Bands(Case):

    def test_bands_and_cuttings(self):
        rng = random.Random(45)
        for n in range(3, 11):
            for floor in (floors_of(n) if n < 8 else some_floors(n, rng, 60)):
                meant = [(len(part[0]), len(part)) for part in plain_bands(floor)]
                self.assert_same(bands(floor), meant)
                self.assertEqual(sum(width * height for width, height in meant), n)
                cutting = plain_cutting(floor)
                self.assert_same(cutting_of(floor), cutting)
                if cutting is not None:
                    self.assertEqual(measure_of(cutting), n * n)
                other = relabelled(floor, rng.sample(range(n), n))
                self.assert_same(cutting_of(other), cutting)
                self.assert_same(cutting_of(sheared(floor)), cutting)

    def test_a_floor_with_each_cutting(self):
        for n in range(3, 11):
            for cutting in cuttings(n * n):
                floor = self.assert_within(1, floor_with, cutting)
                self.assert_same(is_floor(floor), True)
                self.assertEqual(len(floor[0]), n)
                self.assert_same(cutting_of(floor), cutting)
                self.assertEqual(plain_cutting(floor), cutting)
                names = [key(named(floor))]
                while True:
                    floor = sheared(floor)
                    if key(named(floor)) in names:
                        break
                    names.append(key(named(floor)))
                self.assert_same(how_many_with(cutting), len(names))

    def test_floors_with_one_cutting_come_by_shearing(self):
        for n in range(3, 9):
            told = {}
            for floor in floors_of(n):
                told.setdefault(cutting_of(floor), set()).add(key(floor))
            told.pop(None, None)
            self.assertEqual(sorted(told), cuttings(n * n))
            for cutting, names in told.items():
                self.assert_same(how_many_with(cutting), len(names))
                floor, found = floor_with(cutting), set()
                for _ in range(len(names)):
                    found.add(key(plain_named(floor)))
                    floor = plain_led(floor, "s")
                self.assertEqual(found, names)

    def test_wrong_arguments(self):
        wrong = WRONG_CUTTINGS + [
            (0, 1, 1, -1), (0, 2, 1, 0), (1, 2, 2, -1), (0, 1, 1, -2), (0, 6, 1, 0), (0, 999, 1, 1), *cuttings(121),
            *cuttings(144)[::5], *cuttings(10000)[::99], *cuttings(101), (0, 10 ** 28, 1, 1)]
        cutting = ("cutting", InvalidCutting, [(0, 2, 1, -1), (1, 2, 2, -3), (0, 24, 1, -2)], wrong)
        for function in (floor_with, how_many_with):
            self.assert_refusals(function, cutting)
            self.assert_taken(function, cutting)
        for value in cutting[2]:
            self.assert_own_lists(floor_with, value)


class HalfTurns(Case):

    def test_half_turns_and_middles(self):
        rng = random.Random(46)
        for n in range(3, 11):
            for floor in (floors_of(n) if n < 8 else some_floors(n, rng, 40)):
                right, up = floor
                left, below = inverse(right), inverse(up)
                half = half_turn(floor)
                self.assertIsInstance(half, list)
                self.assertEqual([half[square] for square in right], [left[square] for square in half])
                self.assertEqual([half[square] for square in up], [below[square] for square in half])
                self.assertEqual([half[half[s]] for s in range(n)], list(range(n)))
                told = middles(floor)
                corners, sides, edges, centres = told
                self.assert_same(told, (6 - sides - edges - centres, len([s for s in range(n) if half[s] == right[s]]),
                                        len([s for s in range(n) if half[s] == up[s]]),
                                        len([s for s in range(n) if half[s] == s])))
                self.assertIn(corners, (2,) if n % 2 == 0 else (1, 3))
                self.assertEqual([middles(sheared(floor))[0], middles(turned(floor))[0]], [corners, corners])
                cutting = cutting_of(floor)
                if n % 2 == 1 and cutting is not None:
                    self.assertEqual(corners == 3, sign(cutting) == 1)

    def test_the_only_list(self):
        for n in (3, 4, 5):
            for floor in floors_of(n):
                right, up = floor
                left, below = inverse(right), inverse(up)
                found = [list(half) for half in permutations(range(n)) if all(
                    half[right[s]] == left[half[s]] and half[up[s]] == below[half[s]] for s in range(n))]
                self.assert_same([half_turn(floor)], found)

    def test_how_many_have_one_corner(self):
        for n in (3, 5, 7):
            ones = [floor for floor in floors_of(n) if middles(floor)[0] == 1]
            self.assertEqual(len(ones) * (2 * n - 4), how_many_floors(n) * (n - 1))


class Joined(Case):

    def test_against_all_words(self):
        for n in range(3, 8):
            told = floors_of(n)
            for one in told[::1 if n < 6 else 7]:
                far = floors_led(one)
                for other in told[::1 if n < 6 else 3]:
                    self.assert_same(floors_joined(one, other), key(other) in far)
                    self.assertEqual(floors_joined(one, other), middles(one)[0] == middles(other)[0])
                    self.assert_word(one, other, far)

    def test_eight_squares(self):
        told = floors_of(8)
        for one in told[::13]:
            far = floors_led(one)
            for other in told[::5]:
                self.assert_word(one, other, far)

    def assert_word(self, one, other, far):
        letters = self.assert_within(4, floor_word, one, other)
        if key(other) not in far:
            self.assertIsNone(letters)
            return
        self.assertIsInstance(letters, str)
        self.assertEqual(len(letters), far[key(other)])
        self.assert_same(floor_led(one, letters), named(other))

    def test_any_numbers_of_the_squares(self):
        rng = random.Random(47)
        for n in (3, 4, 5, 8):
            for one in some_floors(n, rng, 6):
                far = floors_led(one)
                for other in some_floors(n, rng, 4):
                    name = named(other)
                    self.assert_same(floors_joined(one, other), key(name) in far)
                    letters = floor_word(one, other)
                    self.assertEqual(letters is None, key(name) not in far)
                    if letters is not None:
                        self.assertEqual(len(letters), far[key(name)])
                        self.assert_same(floor_led(one, letters), name)

    def test_unlike_numbers_of_squares(self):
        others = [floor_with((0, 6, 1, -1)), floor_with((1, 2, 2, -3)), floor_with((0, 3, 1, -2))]
        for one, other in permutations(GOOD_FLOORS + others, 2):
            if len(one[0]) != len(other[0]):
                self.assert_same(floors_joined(one, other), False)
                self.assertIsNone(floor_word(one, other))

    def test_cuttings_are_joined_as_floors_that_have_them(self):
        for n in range(3, 11):
            told = cuttings(n * n)
            for one, other in product(told, repeat=2):
                self.assert_same(floors_joined(floor_with(one), floor_with(other)), joined(one, other))

    def test_ten_squares(self):
        rng = random.Random(48)
        for one, other in zip(some_floors(10, rng, 8), some_floors(10, rng, 8)):
            self.assert_same(self.assert_within(2, floors_joined, one, other), True)
            letters = self.assert_within(8, floor_word, one, other)
            self.assert_same(floor_led(one, letters), named(other))

    def test_wrong_arguments(self):
        places = [("one", InvalidFloor, GOOD_FLOORS, WRONG_FLOORS), ("other", InvalidFloor, GOOD_FLOORS, WRONG_FLOORS)]
        for function in (floors_joined, floor_word):
            self.assert_refusals(function, *places)
            self.assert_taken(function, *places)

    def test_equal_calls_bring_equal_results_whatever_lies_between(self):
        calls = [(is_floor, THREE), (named, THREE), (sheared, LONG), (turned, THREE), (floor_led, LONG, "stts"),
                 (how_many_floors, 720720), (floors_of, 5), (bands, LONG), (cutting_of, THREE),
                 (floor_with, (1, 2, 2, -3)), (how_many_with, (0, 6, 1, -1)), (half_turn, LONG), (middles, LONG),
                 (floors_joined, THREE, LONG), (floor_word, THREE, sheared(THREE)), (floor_word, THREE, LONG)]
        self.assert_repeated(calls)
