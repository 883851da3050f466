"""Flights: straight lines over a sheet, on and on through its glued edges.

Each piece is a ring: its left side is glued to its right one. So only where a flight comes to the upper side of a
piece has to be looked at, however far it goes aside. The way down is the way up of the sheet when it is turned by half.
"""

from slitsheets.cuttings import check_cutting, measure_of
from slitsheets.errors import InvalidPoint
from slitsheets.rootnumbers import root_floor, root_less, root_over, root_plus, root_side, root_times
from slitsheets.sheets import (
    CORNER, NOUGHT, as_root, compared, is_point, is_slanted, is_vector, left_at, point_of, square_side, width_at)


def flown(cutting, point, vector):
    """Return the point to which a flight leads, None if it comes to the corner."""
    end, _ = _flight(cutting, point, vector)
    return end


def corner_at(cutting, point, vector):
    """Return the least share of the vector along which a flight comes to the corner, None if there is none."""
    _, share = _flight(cutting, point, vector)
    return share


def check_start(cutting, point):
    """Raise InvalidPoint unless a value is a point of a cutting's sheet other than the corner."""
    if not is_point(cutting, point) or point == CORNER:
        raise InvalidPoint(point)


def _flight(cutting, point, vector):
    """Return the point where a flight ends and None, or None and the share of the vector that leads to the corner."""
    check_cutting(cutting)
    check_start(cutting, point)
    measure = measure_of(cutting)
    if not is_vector(measure, vector):
        raise InvalidPoint(vector)
    across, upwards = vector
    side = root_side(measure, upwards)
    if side == 0:
        return _level_flight(cutting, point, across)
    if side > 0:
        return _rising_flight(cutting, point, vector)
    end, share = _rising_flight(cutting, _half_turned(cutting, point), _opposite(measure, vector))
    if end is None:
        return (None, share)
    return (_half_turned(cutting, end), None)


def _level_flight(cutting, point, across):
    measure = measure_of(cutting)
    x, y = point
    reach = root_times(measure, across, as_root(root_side(measure, across)))
    if y in (NOUGHT, as_root(cutting[2])):
        left, right = _ends_beside(cutting, point)
        ahead = root_less(measure, x, left) if reach != across else root_less(measure, right, x)
        if compared(measure, ahead, reach) <= 0:
            return (None, root_over(measure, ahead, reach))
    return (_come_round(cutting, (root_plus(measure, x, across), y), width_at(cutting, y)), None)


def _rising_flight(cutting, point, vector):
    measure = measure_of(cutting)
    across, upwards = vector
    slope = root_over(measure, across, upwards)
    here, left = point, upwards
    gap = _gap_above(cutting, here)
    while compared(measure, gap, left) <= 0:
        here = _risen(cutting, here, slope, gap)
        left = root_less(measure, left, gap)
        if here == CORNER:
            return (None, root_over(measure, root_less(measure, upwards, left), upwards))
        gap = _gap_above(cutting, here)
    return (_risen(cutting, here, slope, left), None)


def _ends_beside(cutting, point):
    """Return where the edge, or the side that both pieces share, on which a point lies begins and ends."""
    measure = measure_of(cutting)
    a, b, c, _ = cutting
    side = square_side(cutting)
    x, y = point
    if y == as_root(c):
        return (as_root(a), root_plus(measure, as_root(a), side))
    if compared(measure, x, side) < 0:
        return (NOUGHT, side)
    return (side, as_root(b))


def _gap_above(cutting, point):
    """Return how far it is from a point up to the upper side of its piece."""
    measure = measure_of(cutting)
    _, y = point
    top = as_root(cutting[2])
    if not is_slanted(cutting, y):
        top = root_plus(measure, top, square_side(cutting))
    return root_less(measure, top, y)


def _risen(cutting, point, slope, height):
    """Return the point so far above one, at most at the upper side of its piece, in the direction of a flight."""
    measure = measure_of(cutting)
    x, y = point
    place = (root_plus(measure, x, root_times(measure, slope, height)), root_plus(measure, y, height))
    return _come_round(cutting, place, width_at(cutting, y))


def _come_round(cutting, place, width):
    """Return the point that a place is if the piece with such a width stood beside itself again and again."""
    measure = measure_of(cutting)
    x, y = place
    left = left_at(cutting, y)
    times = root_floor(measure, root_over(measure, root_less(measure, x, left), width))
    return point_of(cutting, (root_less(measure, x, root_times(measure, width, as_root(times))), y))


def _half_turned(cutting, point):
    """Return the point to which a half turn of the sheet leads one, which turns both pieces.

    It leads the side that both pieces share to edge 0, edge 1 to itself, and so keeps how the pieces are glued.
    """
    measure = measure_of(cutting)
    x, y = point
    a, _, c, _ = cutting
    side = square_side(cutting)
    # The sum of a place and the one to which it is led.
    across, upwards = root_plus(measure, as_root(a), side), as_root(c)
    if not is_slanted(cutting, y):
        across = root_plus(measure, across, as_root(a))
        upwards = root_plus(measure, as_root(2 * c), side)
    place = (root_less(measure, across, x), root_less(measure, upwards, y))
    return _come_round(cutting, place, width_at(cutting, y))


def _opposite(measure, vector):
    return (root_less(measure, NOUGHT, vector[0]), root_less(measure, NOUGHT, vector[1]))
