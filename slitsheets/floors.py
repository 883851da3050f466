"""Floors: the sheets of whole roots, laid of equal squares, each of which has one to its right and one above it."""

from math import gcd, lcm

from slitsheets.cuttings import cuttings, measure_of
from slitsheets.divisors import bezout
from slitsheets.errors import InvalidCutting, InvalidFloor, InvalidNumber, InvalidWord
from slitsheets.measures import whole_root
from slitsheets.wholes import is_whole

FEWEST_SQUARES = 3
MOST_SQUARES = 10
MOST_LISTED = 8
MOST_COUNTED = 1000000
LONGEST_WORD = 1000


def is_floor(value):
    """Return whether a value is a floor."""
    if not isinstance(value, tuple) or len(value) != 2:
        return False
    if not _is_numbering(value[0]) or not _is_numbering(value[1]) or len(value[0]) != len(value[1]):
        return False
    right, up = value
    if len([square for square in right if up[right[square]] != right[up[square]]]) != 3:
        return False
    places = _places(value)
    return len(places) == len(right) and _are_all_pairs(_rounds(value, places))


def named(floor):
    """Return the one floor that all floors alike to one have as their name."""
    _check_floor(floor)
    return _named(floor)


def sheared(floor):
    """Return the floor in which above each square lies what lay above the one to its left."""
    _check_floor(floor)
    return _sheared(floor)


def turned(floor):
    """Return the floor in which to the right of each square lies what lay above it."""
    _check_floor(floor)
    return _turned(floor)


def floor_led(floor, word):
    """Return the name of the floor to which the signs of a floor word lead, s for shearing and t for turning."""
    _check_floor(floor)
    if not _is_floor_word(word):
        raise InvalidWord(word)
    here = floor
    for letter in word:
        here = _sheared(here) if letter == "s" else _turned(here)
    return _named(here)


def how_many_floors(n):
    """Return how many unlike floors of n squares there are."""
    _check_many(n, MOST_COUNTED)
    many = n * n
    rest = n
    prime = 2
    while rest > 1:
        # What no lesser number divides is a prime if it is less than the square of this one.
        if prime * prime > rest:
            prime = rest
        if rest % prime == 0:
            many -= many // (prime * prime)
        while rest % prime == 0:
            rest //= prime
        prime += 1
    return 3 * (n - 2) * many // 8


def floors_of(n):
    """Return the list of the names of all floors of n squares, in order."""
    _check_many(n, MOST_LISTED)
    # Words lead each floor to one of two bands, and from there, by shearing alone, to all that have its cutting.
    found = []
    for cutting in cuttings(n * n):
        floor = _named(floor_with(cutting))
        if floor not in found:
            found = found + _all_led(floor)
    return sorted(found)


def bands(floor):
    """Return the list, in order, of how many squares a row of each band has, and how many rows the band has."""
    _check_floor(floor)
    return sorted([(len(band[0]), len(band)) for band in _bands(floor)])


def cutting_of(floor):
    """Return the cutting of a floor of two bands, None for a floor of one band."""
    told = bands(floor)
    if len(told) == 1:
        return None
    (w1, h1), (w2, h2) = told
    t1, t2 = _shifts(floor, h1, h2)
    b, c = h1 * w2, w1 * h2
    return ((h1 * t2 - t1 * h2) % gcd(b, c), b, c, 2 * w1 * h1 - len(floor[0]))


def floor_with(cutting):
    """Return a floor that has a cutting."""
    w1, h1, w2, h2 = _band_sizes(cutting)
    _, s, t = bezout(h1, h2)
    # With these shifts h1 * t2 - t1 * h2 is the cutting's a, as h1 * s + h2 * t is 1.
    t1, t2 = -t * cutting[0], s * cutting[0]
    low = w1 * h1
    right = _ring_rows(0, w1, h1) + _ring_rows(low, w2, h2)
    up = [square + w1 for square in range(low - w1)]
    up = up + [low + (x - t1) % w1 for x in range(w1)]
    up = up + [low + square + w2 for square in range(w2 * (h2 - 1))]
    # The first band lies upon the second one, from its left, and the second one upon the first one and itself.
    lowest = list(range(w1)) + list(range(low + w1, low + w2))
    return (right, up + [lowest[(x - t2) % w2] for x in range(w2)])


def how_many_with(cutting):
    """Return how many unlike floors have a cutting."""
    w1, h1, w2, h2 = _band_sizes(cutting)
    return lcm(w1 // gcd(w1, h1), w2 // gcd(w2, h2))


def half_turn(floor):
    """Return the list of the squares to which the half turn of a floor leads its squares."""
    _check_floor(floor)
    return _half_turn(floor)


def middles(floor):
    """Return how many of the six places that the half turn keeps are corners, sides, edges and centres."""
    half = half_turn(floor)
    right, up = floor
    squares = range(len(half))
    sides = len([square for square in squares if half[square] == right[square]])
    edges = len([square for square in squares if half[square] == up[square]])
    centres = len([square for square in squares if half[square] == square])
    return (6 - sides - edges - centres, sides, edges, centres)


def floors_joined(one, other):
    """Return whether some floor word leads one floor to another one."""
    _check_floor(one)
    _check_floor(other)
    return len(one[0]) == len(other[0]) and middles(one)[0] == middles(other)[0]


def floor_word(one, other):
    """Return a floor word with the fewest signs that leads one floor to another one, None if there is none."""
    if not floors_joined(one, other):
        return None
    goal = _key(_named(other))
    rim = [_named(one)]
    words = {_key(rim[0]): ""}
    while goal not in words:
        found = []
        for floor in rim:
            for letter, led in (("s", _named(_sheared(floor))), ("t", _named(_turned(floor)))):
                if _key(led) not in words:
                    words[_key(led)] = words[_key(floor)] + letter
                    found.append(led)
        rim = found
    return words[goal]


def _check_floor(floor):
    if not is_floor(floor):
        raise InvalidFloor(floor)


def _check_many(n, most):
    if not is_whole(n) or n < FEWEST_SQUARES or n > most:
        raise InvalidNumber(n)


def _is_numbering(value):
    """Return whether a value is a list of the numbers of the squares of a floor, each once."""
    if not isinstance(value, list) or len(value) < FEWEST_SQUARES or len(value) > MOST_SQUARES:
        return False
    return all([is_whole(item) for item in value]) and sorted(value) == list(range(len(value)))


def _is_floor_word(value):
    if not isinstance(value, str) or len(value) > LONGEST_WORD:
        return False
    return all([letter in ("s", "t") for letter in value])


def _places(floor):
    """Return, for each square to which walks lead from square 0, how far to the right and up one of them goes."""
    right, up = floor
    places = {0: (0, 0)}
    queue = [0]
    while len(queue) > 0:
        square = queue.pop()
        x, y = places[square]
        for other, place in ((right[square], (x + 1, y)), (up[square], (x, y + 1))):
            if other not in places:
                places[other] = place
                queue.append(other)
    return places


def _rounds(floor, places):
    """Return the pairs of which all pairs of walks that come round are sums: a step there, and back by the places."""
    right, up = floor
    to_right = [(places[s][0] + 1 - places[right[s]][0], places[s][1] - places[right[s]][1]) for s in places]
    upwards = [(places[s][0] - places[up[s]][0], places[s][1] + 1 - places[up[s]][1]) for s in places]
    return to_right + upwards


def _are_all_pairs(pairs):
    """Return whether each pair of whole numbers is a sum of multiples of some pairs."""
    common = 0
    for x, y in pairs:
        for other_x, other_y in pairs:
            common = gcd(common, x * other_y - y * other_x)
    return common == 1


def _inverse(numbering):
    """Return the list of the squares from which a list leads to each square."""
    return [numbering.index(square) for square in range(len(numbering))]


def _sheared(floor):
    right, up = floor
    return (list(right), [up[square] for square in _inverse(right)])


def _turned(floor):
    right, up = floor
    return (list(up), _inverse(right))


def _named(floor):
    return min([_numbered_from(floor, square) for square in floor[0]])


def _numbered_from(floor, start):
    """Return the floor with new numbers, in the order in which the squares are found from one of them."""
    right, up = floor
    order = [start]
    at = 0
    while at < len(order):
        square = order[at]
        for other in (right[square], up[square]):
            if other not in order:
                order.append(other)
        at += 1
    return ([order.index(right[found]) for found in order], [order.index(up[found]) for found in order])


def _all_led(floor):
    """Return the list of the names of all floors to which words lead one, given by its name."""
    found = [floor]
    at = 0
    while at < len(found):
        here = found[at]
        for other in (_named(_sheared(here)), _named(_turned(here))):
            if other not in found:
                found.append(other)
        at += 1
    return found


def _rows(floor):
    """Return the list of the rows of a floor, each the list of its squares in order."""
    right, _ = floor
    rows = []
    for square in sorted(right):
        if not any([square in row for row in rows]):
            rows.append(_row_of(right, square))
    return rows


def _row_of(right, square):
    row = [square]
    while right[row[-1]] != square:
        row.append(right[row[-1]])
    return sorted(row)


def _bands(floor):
    """Return the list of the bands of a floor, each the list of its rows."""
    _, up = floor
    rows = _rows(floor)
    found = [[one] for one in rows]
    for row in rows:
        above = sorted([up[square] for square in row])
        # What lies above a row may be no row, or the row itself.
        joined = [band for band in found if row in band or above in band]
        found = [band for band in found if band not in joined] + [[part for band in joined for part in band]]
    return found


def _width(band):
    return len(band[0])


def _shifts(floor, h1, h2):
    """Return the numbers t1 and t2 of a floor of two bands: how far each is shifted on its way up."""
    marked = _corner_squares(floor)
    low = [square for row in min(_bands(floor), key=_width) for square in row]
    below = _inverse(floor[1])
    inner = [square for square in marked if square in low][0]
    outer = [square for square in marked if square not in low and below[square] in low][0]
    return (_steps_below(floor, inner, h1, marked), _steps_below(floor, outer, h2, [inner]))


def _corner_squares(floor):
    """Return the list of the squares whose lower left corner is the corner of the sheet."""
    left, below = _inverse(floor[0]), _inverse(floor[1])
    return [square for square in floor[0] if left[below[square]] != below[left[square]]]


def _steps_below(floor, square, height, goals):
    """Return how many steps to the right it is from a square to one from which so many steps up lead to a goal."""
    right, _ = floor
    steps = 0
    while _square_above(floor, square, height) not in goals:
        square = right[square]
        steps += 1
    return steps


def _square_above(floor, square, height):
    _, up = floor
    for _ in range(height):
        square = up[square]
    return square


def _band_sizes(cutting):
    """Return w1, h1, w2 and h2, the widths and heights of the bands of a floor with a cutting."""
    measure = measure_of(cutting)
    n = whole_root(measure)
    if n * n != measure or n > MOST_SQUARES:
        raise InvalidCutting(cutting)
    _, b, c, e = cutting
    squares = (e + n) // 2
    w1 = gcd(squares, c)
    h1 = squares // w1
    return (w1, h1, b // h1, c // w1)


def _ring_rows(first, width, height):
    """Return the list of the squares to the right of those of a band, row by row from its first square on."""
    return [first + at - at % width + (at + 1) % width for at in range(width * height)]


def _half_turn(floor):
    told = [_spread(floor, image) for image in floor[0]]
    return [half for half in told if _turns_about(floor, half)][0]


def _spread(floor, image):
    """Return the list of where squares go if square 0 goes to one and walks are turned by half."""
    right, up = floor
    left, below = _inverse(right), _inverse(up)
    half = {0: image}
    queue = [0]
    while len(queue) > 0:
        square = queue.pop()
        turned_there = half[square]
        for other, place in ((right[square], left[turned_there]), (up[square], below[turned_there])):
            if other not in half:
                half[other] = place
                queue.append(other)
    return [half[square] for square in range(len(right))]


def _turns_about(floor, half):
    """Return whether to the right and above a square lies what goes to the left of where it goes, and below it."""
    right, up = floor
    squares = range(len(right))
    return all([right[half[right[square]]] == half[square] and up[half[up[square]]] == half[square]
                for square in squares])


def _key(floor):
    """Return what tells a floor and may be the key of a dict."""
    return (tuple(floor[0]), tuple(floor[1]))
