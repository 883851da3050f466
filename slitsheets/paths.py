"""Paths: lists of how often a way goes along each of the four base paths of a sheet."""

from slitsheets.cuttings import check_cutting
from slitsheets.errors import InvalidList
from slitsheets.wholes import is_whole


def crossing(one, other):
    """Return how often one path crosses another one, with signs."""
    check_path(one)
    check_path(other)
    return one[0] * other[1] - one[1] * other[0] + one[2] * other[3] - one[3] * other[2]


def root_path(cutting, path):
    """Return the path that goes as far as a path times the side of the square, in the same direction."""
    check_cutting(cutting)
    check_path(path)
    a, b, c, e = cutting
    right, up, along, aslant = path
    return [
        e * right + b * along + a * aslant,
        e * up + c * aslant,
        c * right - a * up,
        b * up]


def is_path(value):
    """Return whether a value is a path."""
    return isinstance(value, list) and len(value) == 4 and all([is_whole(item) for item in value])


def check_path(path):
    """Raise InvalidList unless a value is a path."""
    if not is_path(path):
        raise InvalidList(path)
