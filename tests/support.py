"""What several tests share: comparing by kind, wrong values for every place, and refusals in order."""

import contextlib
import itertools
import time
import unittest

from slitsheets.errors import InvalidMeasure, SheetError, TooMany, Unlike


def same(one, other):
    """Whether two values are equal and of the same kinds all through; 1 is not True, a tuple is no list."""
    if type(one) is not type(other):
        return False
    if isinstance(one, (list, tuple)):
        return len(one) == len(other) and all(map(same, one, other))
    if isinstance(one, dict):
        return same(list(one.items()), list(other.items()))
    if isinstance(one, SheetError):
        return same(vars(one), vars(other))
    return one == other


def shown(value):
    """A value for a message; Python shows no numbers of very many figures."""
    try:
        return repr(value)
    except ValueError:
        return "a value with a very great number"


def copied(value):
    """A copy that shares nothing that could be changed."""
    if isinstance(value, (list, tuple)):
        return type(value)(copied(item) for item in value)
    if isinstance(value, dict):
        return {key: copied(item) for key, item in value.items()}
    if isinstance(value, SheetError):
        twin = type(value)()
        vars(twin).update(copied(vars(value)))
        return twin
    return value


def lists_in(value):
    """All list objects within a value of lists and tuples, as often as they stand there."""
    if not isinstance(value, (list, tuple)):
        return []
    found = [value] if isinstance(value, list) else []
    return found + [one for item in value for one in lists_in(item)]


def nested(depth):
    """Lists, tuples and dictionaries within one another."""
    value = 5
    for layer in range(depth):
        value = [[value], (value, None), {"a": value}][layer % 3]
    return value


def any_values():
    """Values of every kind that may be handed in, none of them a whole number, a tuple of four or of three."""
    return [
        None, True, False, "", "5", "(0, 1, 1, -1)", [], [5], [None], [1, 1, 2], [0, 1, 1, -1],
        (), (5,), (None,), ((0, 1, 1, -1),), {}, {"a": 5}, {5: [None]}, {0: 0, 1: 1, 2: 1, 3: -1},
        SheetError(), InvalidMeasure(), InvalidMeasure(5), TooMany([(0, 1, 1, -1)]), nested(30),
    ]


def wrong_measures():
    return any_values() + [4, 1, 0, -3, -4, -5, 6, 7, 10, 11, 18, 10 ** 29 + 2, 10 ** 29 + 3, -(10 ** 29),
                           (5, 5, 5), (0, 1, 1, -1)]


def wrong_numbers():
    return any_values() + [(1, 1, 2), (0, 1, 1, -1)]


WRONG_CUTTINGS = any_values() + [
    0, 17, (0, 1, 1, 0), (0, 2, 2, -2), (0, 2, 1, 1), (0, 1, 1, 5), (1, 1, 1, -1), (2, 2, 2, -1), (-1, 2, 2, -1),
    (0, 0, 1, -2), (0, 1, 0, 0), (0, -1, -1, -1), (0, -4, 1, -9), (0, 1, -1, -1), (0, 3, 6, -9), (2, 4, 6, -8),
    (0, 1, 1), (0, 1, 1, -1, 0), [0, 1, 1, -1], [(0, 1, 1, -1)], ((0, 1, 1, -1),),
    (False, 1, 1, -1), (0, True, 1, -1), (0, 1, True, -1), (0, 2, 1, False), (None, 1, 1, -1), (0, None, 1, -1),
    (0, 1, None, -1), (0, 1, 1, None), ("0", 1, 1, -1), (0, [1], 1, -1), (0, 1, (1,), -1), (0, 1, 1, {}),
    (0, 10 ** 29, 10 ** 29, 0), (0, 10 ** 29, 1, 10 ** 29 - 1)]


class Case(unittest.TestCase):

    def assert_same(self, told, meant):
        if not same(told, meant):
            self.fail(f"{shown(told)} is not {shown(meant)}, by value and kind")

    def assert_refused(self, error, value, function, /, *arguments, **named):
        """The call raises this very error, which bears this very value, and changes no argument."""
        handed = [*arguments, *named.values()]
        before = copied(handed)
        with self.assertRaises(SheetError, msg=f"{function.__name__}{tuple(handed)!r}") as caught:
            function(*arguments, **named)
        self.assertIs(type(caught.exception), error, f"{function.__name__}{tuple(handed)!r}")
        self.assertIs(caught.exception.value, value, f"{function.__name__}{tuple(handed)!r}")
        self.assert_same(handed, before)

    def assert_refusals(self, function, *places):
        """Each place is (name, error, good values, wrong values): the first wrong one is refused,
        alone and with good or wrong arguments behind it, by position and by name."""
        for at, (_, error, _, wrongs) in enumerate(places):
            ahead = [good[0] for _, _, good, _ in places[:at]]
            behind = [[good[0], bad[0], bad[-1]] for _, _, good, bad in places[at + 1:]]
            for wrong in wrongs:
                for rest in itertools.product(*behind):
                    arguments = [*ahead, wrong, *rest]
                    self.assert_refused(error, wrong, function, *arguments)
                names = [name for name, _, _, _ in places]
                self.assert_refused(error, wrong, function, **dict(zip(names, arguments)))

    def assert_taken(self, function, *places):
        """The good values raise nothing, are not changed, and bring equal results twice, by position and name."""
        names = [name for name, _, _, _ in places]
        for arguments in itertools.product(*[good for _, _, good, _ in places]):
            before = copied(arguments)
            told = function(*arguments)
            self.assert_same(arguments, before)
            self.assert_same(function(*arguments), told)
            self.assert_same(function(**dict(zip(names, arguments))), told)

    def assert_unlike(self, function, *behind):
        """Of two cuttings with two measures the second one is refused, whatever stands behind."""
        for one, other in (((0, 2, 1, -3), (0, 1, 1, -1)), ((0, 1, 1, -1), (1, 2, 2, -1)),
                           ((0, 2, 1, -1), (0, 2, 1, 0)), ((0, 10 ** 29, 1, 1), (0, 10 ** 29, 1, 2)),
                           ((0, 1, 1, -1), (0, 10 ** 29, 1, -5))):
            self.assert_refused(Unlike, other, function, one, other, *behind)
            self.assert_refused(Unlike, one, function, other, one, *behind)

    def assert_judged_false(self, values, function, *ahead):
        """The function says False of each value, by position and by name, and changes none."""
        for value in values:
            before = copied(value)
            self.assert_same(function(*ahead, value), False)
            self.assert_same(function(*ahead, value=value), False)
            self.assert_same(value, before)

    def assert_own_lists(self, function, *arguments):
        """No list in a result stands there twice, in an argument or in another result; what is told is told anew."""
        told, again = function(*arguments), function(*arguments)
        meant = copied(told)
        lists = lists_in(told)
        self.assertEqual(len({id(one) for one in lists}), len(lists), function.__name__)
        others = {id(one) for one in lists_in(again) + lists_in(arguments)}
        self.assertEqual({id(one) for one in lists} & others, set(), function.__name__)
        for one in lists:
            one.append(None)
        self.assert_same(again, meant)
        self.assert_same(function(*arguments), meant)

    def assert_repeated(self, calls):
        """Equal calls bring equal results, whatever other calls, also refused ones, lie between."""
        first = [function(*arguments) for function, *arguments in calls]
        for function, *arguments in reversed(calls):
            function(*arguments)
            with contextlib.suppress(SheetError):
                function(None, *arguments[1:])
        self.assert_same([function(*arguments) for function, *arguments in calls], first)

    def assert_within(self, seconds, function, *arguments):
        """What a function returns, which takes it no longer than so many seconds."""
        start = time.monotonic()
        told = function(*arguments)
        self.assertLess(time.monotonic() - start, seconds, function.__name__)
        return told
