"""Sheets: a square upon a slanted piece, their outline and how it is glued, the one name that each point has."""

from slitsheets.cuttings import measure_of
from slitsheets.errors import InvalidPoint
from slitsheets.rootnumbers import is_root, root_less, root_number, root_plus, root_side

NOUGHT = (0, 0, 1)
CORNER = ((0, 0, 1), (0, 0, 1))


def square_side(cutting):
    """Return the side of the square of a cutting's sheet."""
    measure = measure_of(cutting)
    return root_number(measure, cutting[3], 1, 2)


def corners(cutting):
    """Return the list of the eight corners of the outline of a sheet."""
    measure = measure_of(cutting)
    a, b, c, _ = cutting
    side = square_side(cutting)
    left, low = as_root(a), as_root(c)
    right, high = root_plus(measure, left, side), root_plus(measure, low, side)
    return [
        CORNER, (side, NOUGHT), (as_root(b), NOUGHT), (as_root(a + b), low),
        (right, low), (right, high), (left, high), (left, low)]


def gluings(cutting):
    """Return the list of the pairs of edges that are glued, each with the shift from the first edge to the second."""
    outline = corners(cutting)
    measure = measure_of(cutting)
    # The edges of a pair run against one another: where the first one starts, the second one ends.
    return [
        (edge, other, _vector_less(measure, outline[(other + 1) % 8], outline[edge]))
        for edge, other in ((0, 5), (1, 3), (2, 7), (4, 6))]


def area(cutting):
    """Return the area of a sheet."""
    measure = measure_of(cutting)
    return root_number(measure, measure, cutting[3], 2)


def point_of(cutting, place):
    """Return the point of a sheet that a place in one of both pieces is."""
    if not _is_place(cutting, place):
        raise InvalidPoint(place)
    return _named(cutting, place)


def is_point(cutting, value):
    """Return whether a value is a point of a sheet, told by the one name that it has."""
    return _is_place(cutting, value) and _named(cutting, value) == value


def piece_of(cutting, point):
    """Return 0 for a point below the upper side of the slanted piece, otherwise 1."""
    if not is_point(cutting, point):
        raise InvalidPoint(point)
    return 0 if is_slanted(cutting, point[1]) else 1


def as_root(number):
    """Return the root number that stands for a whole number."""
    return (number, 0, 1)


def is_vector(measure, value):
    """Return whether a value is a vector: a tuple of two root numbers of a measure."""
    if not isinstance(value, tuple) or len(value) != 2:
        return False
    return all([is_root(measure, item) for item in value])


def compared(measure, one, other):
    """Return -1, 0 or 1: whether a root number is below another one, equal to it or above it."""
    return root_side(measure, root_less(measure, one, other))


def is_slanted(cutting, height):
    """Return whether a height is below the upper side of the slanted piece."""
    return compared(measure_of(cutting), height, as_root(cutting[2])) < 0


def width_at(cutting, height):
    """Return the width of the piece in which points of a height lie, which is the square where both pieces meet."""
    return as_root(cutting[1]) if is_slanted(cutting, height) else square_side(cutting)


def left_at(cutting, height):
    """Return where the left side of a piece is at a height; both pieces have it at one place where they meet."""
    a, _, c, _ = cutting
    if not is_slanted(cutting, height):
        return as_root(a)
    x, y, below = height
    return root_number(measure_of(cutting), a * x, a * y, c * below)


def _is_place(cutting, value):
    """Return whether a value is a vector that lies in one of both pieces."""
    measure = measure_of(cutting)
    if not is_vector(measure, value):
        return False
    x, y = value
    _, b, c, _ = cutting
    highest = root_plus(measure, as_root(c), square_side(cutting))
    if root_side(measure, y) < 0 or compared(measure, y, highest) > 0:
        return False
    # Where both pieces meet, the wider one tells.
    width = as_root(b) if y == as_root(c) else width_at(cutting, y)
    along = root_less(measure, x, left_at(cutting, y))
    return root_side(measure, along) >= 0 and compared(measure, along, width) <= 0


def _named(cutting, place):
    """Return the point that a place in one of both pieces is."""
    measure = measure_of(cutting)
    x, y = _moved_down(cutting, place)
    if y == NOUGHT:
        return CORNER if x in (NOUGHT, square_side(cutting), as_root(cutting[1])) else (x, y)
    width = width_at(cutting, y)
    if root_less(measure, x, left_at(cutting, y)) == width:
        return (root_less(measure, x, width), y)
    return (x, y)


def _moved_down(cutting, place):
    """Return the place on the edges 0 and 1 to which the gluing moves one of 3 or 5, any other place as it is."""
    measure = measure_of(cutting)
    x, y = place
    a, _, c, _ = cutting
    side = square_side(cutting)
    along = root_less(measure, x, as_root(a))
    is_shared = root_side(measure, along) > 0 and compared(measure, along, side) < 0
    if y == root_plus(measure, as_root(c), side) or (y == as_root(c) and not is_shared):
        return (along, NOUGHT)
    return place


def _vector_less(measure, one, other):
    return (root_less(measure, one[0], other[0]), root_less(measure, one[1], other[1]))
