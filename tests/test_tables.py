"""[33] to [36] Tables of deeds and words, and the shear that is put between a deed and what is back for it."""

import random
from itertools import product
from math import gcd

from slitsheets.deeds import back, deeds, done, led, led_back, passed
from slitsheets.errors import InvalidCutting, InvalidList, InvalidNumber, InvalidTable, InvalidWord
from slitsheets.paths import crossing, root_path
from slitsheets.tables import (
    back_shear, deed_table, keeps_crossings, led_path, shear_table, table_back, table_product, word_table)
from plain import SEARCHED, plain_deeds, plain_done
from support import Case, any_values, copied, nested, wrong_numbers
from test_deeds import CUTTING, DEED, GREAT_CUTTINGS, LOW, WORD, great_deeds
from test_paths import BASE, GOOD_PATHS, WRONG_PATHS, added

UNMOVING = BASE
OPPOSITE = [[-item for item in row] for row in BASE]
SHEAR = [[1, 3, 0, 0], [0, 1, 0, 0], [0, 0, 1, -7], [0, 0, 0, 1]]
MIXED = [[1, 2, 3, 4], [5, 6, 7, 8], [-1, -2, -3, -4], [10 ** 29, 0, 1, -(10 ** 29)]]
TURN = [[0, 1, 0, -1], [0, 0, 1, 0], [0, -1, 0, 0], [1, 0, 1, 0]]
GOOD_TABLES = [TURN, MIXED, UNMOVING, [[0] * 4, [0] * 4, [0] * 4, [0] * 4]]
KEEPING = [TURN, UNMOVING, OPPOSITE, SHEAR]
WRONG_TABLES = any_values() + [
    0, 16, [1, 0, 0, 0], UNMOVING[:3], UNMOVING + [[0, 0, 0, 0]], tuple(UNMOVING), [tuple(row) for row in UNMOVING],
    UNMOVING[:3] + [[0, 0, 0]], UNMOVING[:3] + [[0, 0, 0, 1, 0]], [[1, 0, 0]] + UNMOVING[1:], [UNMOVING],
    [[True, 0, 0, 0]] + UNMOVING[1:], UNMOVING[:3] + [[0, 0, 0, True]], [[1, False, 0, 0]] + UNMOVING[1:],
    UNMOVING[:3] + [None], UNMOVING[:3] + [(0, 0, 0, 1)], [None] * 4, [[None] * 4] * 4, [["1"] * 4] * 4, [[]] * 4,
    UNMOVING[:2] + [[0, 0, [1], 0]] + UNMOVING[3:], dict(enumerate(UNMOVING)), InvalidTable(UNMOVING), [{}, {}, {}, {}],
    [[1, 0, 0, nested(28)]] + UNMOVING[1:], "1000", [InvalidTable()] * 4]
NOT_KEEPING = [
    MIXED, [[0] * 4] * 4, [[2, 0, 0, 0]] + UNMOVING[1:], UNMOVING[::-1], [BASE[1], BASE[0], BASE[2], BASE[3]],
    [BASE[0], [0, -1, 0, 0], BASE[2], BASE[3]], UNMOVING[:3] + [[0, 0, 0, -1]], [BASE[0], BASE[2], BASE[1], BASE[3]],
    [[1, 0, 1, 0]] + UNMOVING[1:], [[1, 0, 0, 1]] + UNMOVING[1:], [[1] * 4] * 4]
TABLE = ("table", InvalidTable, GOOD_TABLES, WRONG_TABLES)


def columns(table):
    """The paths to which a table leads the base paths; of such paths, the table."""
    return [[row[k] for row in table] for k in range(4)]


def plain_product(one, other):
    return [[sum(one[x][k] * other[k][y] for k in range(4)) for y in range(4)] for x in range(4)]


def plain_led(table, path):
    found = [0, 0, 0, 0]
    for k, column in enumerate(columns(table)):
        found = added(found, column, path[k])
    return found


def plain_keeps(table):
    led_paths = columns(table)
    return all(crossing(led_paths[x], led_paths[y]) == crossing(BASE[x], BASE[y])
               for x, y in product(range(4), repeat=2))


def any_keeping(rng, bound, many):
    """A table that keeps crossings: a product of such as add to each path how often it crosses one."""
    table = UNMOVING
    for _ in range(many):
        path = [rng.randrange(-bound, bound + 1) for _ in range(4)]
        table = plain_product(table, columns([added(base, path, crossing(base, path)) for base in BASE]))
    return table


def plain_deed_tables(cutting, deed):
    """All tables that are as [34] tells, by trying all z."""
    _, _, c, e = cutting
    p, q = deed
    other = a1, b1, c1, e1 = plain_done(cutting, deed)
    found = []
    for z in range(q * (b1 // gcd(b1, c1))):
        x, rest = divmod(p * z - 1, q)
        if rest:
            continue
        first, second = [0, 0, p, q], [1, 0, x, z]
        # What the root's work has to be tells where 2 and 3 are led: root_path is [e1, 0, c1, 0] and [0, e1, -a1, b1].
        third = [item - (e + q * c + e1) * one for item, one in zip(root_path(cutting, first), first)]
        if any(item % c1 for item in third):
            continue
        third = [item // c1 for item in third]
        fourth = [item - (e + q * c + e1) * one + a1 * led_item for item, one, led_item
                  in zip(root_path(cutting, second), second, third)]
        if not any(item % b1 for item in fourth):
            found.append(columns([first, second, third, [item // b1 for item in fourth]]))
    assert other == done(cutting, deed)
    return found


class TableCase(Case):

    def assert_deed_table(self, cutting, deed, table):
        """All that [34] tells of the table of a deed."""
        _, _, c, e = cutting
        p, q = deed
        other = done(cutting, deed)
        led_paths = columns(table)
        self.assert_same(led_paths[0], [0, 0, p, q])
        one, nought, x, z = led_paths[1]
        self.assert_same([one, nought, p * z - q * x], [1, 0, 1])
        self.assertTrue(0 <= z < q * (other[1] // gcd(other[1], other[2])))
        for path in led_paths[2:]:
            self.assert_same(path[2:], [path[1] * p, path[1] * q])
        self.assertIn(led_paths[2][0] * led_paths[3][1] - led_paths[2][1] * led_paths[3][0], (1, -1))
        self.assert_same(keeps_crossings(table), True)
        self.assertTrue(plain_keeps(table))
        for path in BASE + [[3, -1, 4, 5]]:
            there = plain_led(table, path)
            self.assert_same(root_path(cutting, there),
                             added(plain_led(table, root_path(other, path)), there, e + q * c))

    def assert_back_shear(self, cutting, deed):
        other = done(cutting, deed)
        turned = back(cutting, deed)
        told = self.assert_within(1, back_shear, cutting, deed)
        self.assertIn(told, (0, -1, -2))
        for number in range(-4, 3):
            between = plain_product(plain_product(deed_table(cutting, deed), shear_table(other, number)),
                                    deed_table(other, turned))
            self.assertEqual(columns(between)[0] == [-1, 0, 0, 0], number == told)
            if number == told:
                last = shear_table(cutting, back_shear(other, turned))
                self.assert_same(plain_product(between, last), OPPOSITE)


class Led(TableCase):

    def test_any_paths_by_any_tables(self):
        rng = random.Random(33)
        for bound in [2, 100, 10 ** 29] * 30:
            one, other = ([[rng.randrange(-bound, bound + 1) for _ in range(4)] for _ in range(4)] for _ in range(2))
            path = [rng.randrange(-bound, bound + 1) for _ in range(4)]
            self.assert_same(led_path(one, path), plain_led(one, path))
            both = table_product(one, other)
            self.assert_same(both, plain_product(one, other))
            self.assert_same(led_path(both, path), led_path(one, led_path(other, path)))
            self.assert_same([led_path(one, base) for base in BASE], columns(one))

    def test_crossings(self):
        rng = random.Random(34)
        for bound, many in [(1, 1), (2, 3), (5, 6), (10 ** 6, 2)] * 12:
            table = any_keeping(rng, bound, many)
            self.assert_same(keeps_crossings(table), True)
            turned = table_back(table)
            self.assert_same(plain_product(table, turned), UNMOVING)
            self.assert_same(plain_product(turned, table), UNMOVING)
            self.assert_same(table_back(turned), table)
            one, other = ([rng.randrange(-9, 10) for _ in range(4)] for _ in range(2))
            self.assertEqual(crossing(led_path(table, one), led_path(table, other)), crossing(one, other))
            for x, y in product(range(4), repeat=2):
                changed = copied(table)
                changed[x][y] += rng.choice([-2, -1, 1, 2])
                self.assert_same(keeps_crossings(changed), plain_keeps(changed))
        for table in NOT_KEEPING + [MIXED]:
            self.assert_same(keeps_crossings(table), False)
            self.assert_refused(InvalidTable, table, table_back, table)
        for table in KEEPING:
            self.assert_same(keeps_crossings(table), True)

    def test_wrong_arguments(self):
        self.assert_refusals(led_path, TABLE, ("path", InvalidList, GOOD_PATHS, WRONG_PATHS))
        self.assert_taken(led_path, TABLE, ("path", InvalidList, GOOD_PATHS, WRONG_PATHS))
        places = [("one", InvalidTable, GOOD_TABLES, WRONG_TABLES), ("other", InvalidTable, GOOD_TABLES, WRONG_TABLES)]
        self.assert_refusals(table_product, *places)
        self.assert_taken(table_product, *places)
        self.assert_refusals(keeps_crossings, TABLE)
        self.assert_taken(keeps_crossings, TABLE)
        self.assert_refusals(table_back, ("table", InvalidTable, KEEPING, WRONG_TABLES + NOT_KEEPING))
        self.assert_taken(table_back, ("table", InvalidTable, KEEPING, []))

    def test_lists_are_new_and_changed_ones_are_looked_at_anew(self):
        path, table = [1, 2, 3, 4], copied(TURN)
        for function, *arguments in ((led_path, table, path), (table_product, table, table), (table_back, table),
                                     (table_product, UNMOVING, UNMOVING), (table_back, UNMOVING),
                                     (table_product, [[1, 0, 0, 0]] * 4, [[1, 0, 0, 0]] * 4)):
            self.assert_own_lists(function, *arguments)
        self.assert_same(led_path(table, path), [-2, 3, -2, 4])
        table[0][0], path[1] = 5, 0
        self.assert_same(led_path(table, path), [1, 3, 0, 4])
        self.assert_same(keeps_crossings(table), False)
        self.assert_refused(InvalidTable, table, table_back, table)
        table[3] = [1, 0, 1]
        self.assert_refused(InvalidTable, table, table_product, table, UNMOVING)
        self.assert_refused(InvalidTable, table, table_product, UNMOVING, table)


class OfDeeds(TableCase):

    def test_of_small_cuttings(self):
        for measure, told in SEARCHED.items():
            for cutting in told:
                for deed in plain_deeds(cutting)[::1 if measure < 80 else 3]:
                    table = deed_table(cutting, deed)
                    self.assert_deed_table(cutting, deed, table)
                    if measure < 120:
                        self.assert_same([table], plain_deed_tables(cutting, deed))

    def test_of_great_cuttings(self):
        for cutting in GREAT_CUTTINGS + [(0, 10 ** 30 - 1, 10 ** 30 - 3, 1)]:
            for deed in great_deeds(cutting):
                self.assert_deed_table(cutting, deed, self.assert_within(1, deed_table, cutting, deed))

    def test_wrong_arguments(self):
        for function in (deed_table, back_shear):
            self.assert_refusals(function, CUTTING, DEED)
            self.assert_taken(function, CUTTING, DEED)

    def test_own_lists(self):
        self.assert_own_lists(deed_table, LOW, (1, 2))
        self.assert_own_lists(deed_table, (0, 1, 1, -1), (0, 1))


class OfWords(TableCase):

    def test_the_product_of_the_deeds(self):
        rng = random.Random(35)
        for measure in (5, 8, 9, 12, 17, 33, 60, 88, 153):
            for cutting in SEARCHED[measure]:
                word, here, meant = [], cutting, UNMOVING
                for _ in range(7):
                    self.assert_same(word_table(cutting, word), meant)
                    deed = rng.choice(deeds(here))
                    meant = plain_product(meant, deed_table(here, deed))
                    word, here = word + [deed], done(here, deed)

    def test_sixty_deeds(self):
        for cutting in [LOW, (1, 2, 2, -1)] + GREAT_CUTTINGS:
            word, here, meant = [], cutting, UNMOVING
            for at in range(60):
                told = great_deeds(here)
                word.append(told[at % len(told)])
                meant = plain_product(meant, deed_table(here, word[-1]))
                here = done(here, word[-1])
            table = self.assert_within(2, word_table, cutting, word)
            self.assert_same(table, meant)
            self.assertTrue(plain_keeps(table))
            # The root's work along a word: so many times more for each of its deeds.
            way = passed(cutting, word)
            more = sum(one[3] + deed[1] * one[2] for one, deed in zip(way, word))
            for base in BASE:
                there = plain_led(table, base)
                self.assert_same(root_path(cutting, there), added(plain_led(table, root_path(here, base)), there, more))

    def test_one_word_behind_another(self):
        for word in ([(1, 2), (0, 1), (1, 3)], [(2, 3), (1, 3), (0, 1)]):
            there = led(LOW, word)
            turned = led_back(LOW, word)
            self.assert_same(word_table(LOW, word + turned),
                             plain_product(word_table(LOW, word), word_table(there, turned)))
        self.assert_same(word_table(LOW, [(1, 2)]), deed_table(LOW, (1, 2)))

    def test_wrong_arguments(self):
        self.assert_refusals(word_table, CUTTING, WORD)
        self.assert_taken(word_table, ("cutting", InvalidCutting, [LOW], []),
                          ("word", InvalidWord, [[], [(0, 1)], [(1, 2), (0, 1), (1, 3)]], []))

    def test_lists_are_new_and_changed_ones_are_looked_at_anew(self):
        word = [(1, 2)]
        for value in ([], word, [(1, 3)] * 5):
            self.assert_own_lists(word_table, LOW, value)
        word.append((0, 1))
        self.assert_same(word_table(LOW, word), [[0, -1, 2, 1], [1, 0, 2, 1], [1, 1, 3, 1], [2, 2, 8, 3]])
        word.append((1, 1))
        self.assert_refused(InvalidWord, word, word_table, LOW, word)


class Shears(TableCase):

    def test_shears(self):
        for cutting in [cutting for told in SEARCHED.values() for cutting in told] + GREAT_CUTTINGS:
            _, b, c, _ = cutting
            common = gcd(b, c)
            for times in (0, 1, -1, 7, -(10 ** 29), 10 ** 29 + 1):
                table = shear_table(cutting, times)
                self.assert_same(columns(table), [
                    [1, 0, 0, 0], [times * (b // common), 1, 0, 0], [0, 0, 1, 0], [0, 0, times * (c // common), 1]])
                self.assert_same(keeps_crossings(table), True)
                for path in BASE:
                    self.assert_same(root_path(cutting, led_path(table, path)),
                                     led_path(table, root_path(cutting, path)))

    def test_between_a_deed_and_back_in_small_sheets(self):
        told = set()
        for measure, cuttings_there in SEARCHED.items():
            for cutting in cuttings_there[::1 if measure < 80 else 3]:
                for deed in plain_deeds(cutting)[::1 if measure < 60 else 4]:
                    self.assert_back_shear(cutting, deed)
                    told.add(back_shear(cutting, deed))
        self.assertEqual(told, {0, -1, -2})

    def test_between_a_deed_and_back_in_great_sheets(self):
        for cutting in GREAT_CUTTINGS:
            for deed in great_deeds(cutting):
                self.assert_back_shear(cutting, deed)

    def test_wrong_arguments(self):
        places = [CUTTING, ("times", InvalidNumber, [0, 1, -3, 10 ** 29], wrong_numbers())]
        self.assert_refusals(shear_table, *places)
        self.assert_taken(shear_table, *places)
        self.assert_own_lists(shear_table, LOW, 0)
        self.assert_own_lists(shear_table, LOW, 5)

    def test_equal_calls_bring_equal_results_whatever_lies_between(self):
        calls = [(led_path, TURN, [1, 2, 3, 4]), (table_product, TURN, MIXED), (table_product, MIXED, TURN),
                 (keeps_crossings, TURN), (table_back, TURN), (deed_table, LOW, (1, 2)), (word_table, LOW, [(1, 2)]),
                 (shear_table, LOW, 2), (back_shear, LOW, (1, 2)), (keeps_crossings, MIXED)]
        self.assert_repeated(calls)
