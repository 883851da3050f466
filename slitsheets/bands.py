"""Bands: the two parts into which a sheet falls in the direction of a deed, and the change to the sheet behind it."""

from slitsheets.cuttings import check_cutting, measure_of
from slitsheets.deeds import behind, check_deed
from slitsheets.errors import InvalidPoint
from slitsheets.flights import check_start, flown
from slitsheets.paths import check_path
from slitsheets.rootnumbers import root_less, root_number, root_over, root_plus, root_times
from slitsheets.sheets import NOUGHT, area, as_root, is_vector, square_side
from slitsheets.tables import deed_table


def path_vector(cutting, path):
    """Return the vector from the start of a path to its end."""
    check_cutting(cutting)
    check_path(path)
    a, b, c, e = cutting
    measure = measure_of(cutting)
    right, up, along, aslant = path
    # Twice as far as the path goes, as the side of the square is half of the sum of e and the root.
    across = root_number(measure, right * e + 2 * (along * b + aslant * a), right, 2)
    return (across, root_number(measure, up * e + 2 * aslant * c, up, 2))


def around(cutting, deed):
    """Return the vectors along which the points of both bands come back."""
    check_deed(cutting, deed)
    p, q = deed
    measure = measure_of(cutting)
    other = behind(cutting, deed)
    first = path_vector(cutting, [0, 0, p, q])
    longer = root_over(measure, as_root(other[1]), square_side(other))
    return (first, (root_times(measure, first[0], longer), root_times(measure, first[1], longer)))


def band_areas(cutting, deed):
    """Return the areas of both bands."""
    check_deed(cutting, deed)
    measure = measure_of(cutting)
    first = root_times(measure, square_side(cutting), square_side(behind(cutting, deed)))
    return (first, root_less(measure, area(cutting), first))


def band_of(cutting, deed, point):
    """Return 0 or 1, the number of the band in which a point lies, None for a point on a rim."""
    check_deed(cutting, deed)
    check_start(cutting, point)
    first, second = around(cutting, deed)
    if flown(cutting, point, first) == point:
        return 0
    # A rim is no longer than the way around the second band: along it, a flight from a rim comes to the corner.
    return None if flown(cutting, point, second) is None else 1


def change(cutting, deed):
    """Return the matrix that leads vectors of a sheet to those of the sheet behind a deed."""
    table = deed_table(cutting, deed)
    measure = measure_of(cutting)
    right, up = [path_vector(cutting, [row[at] for row in table]) for at in range(2)]
    # Both sides of the new square are led to (r1, 0) and (0, r1), and as vectors they span the area r * r1.
    side = square_side(cutting)
    return (
        (root_over(measure, up[1], side), _less_over(measure, up[0], side)),
        (_less_over(measure, right[1], side), root_over(measure, right[0], side)))


def changed(cutting, deed, vector):
    """Return the vector to which the change of a deed leads a vector."""
    check_deed(cutting, deed)
    measure = measure_of(cutting)
    if not is_vector(measure, vector):
        raise InvalidPoint(vector)
    across, upwards = [
        root_plus(measure, root_times(measure, row[0], vector[0]), root_times(measure, row[1], vector[1]))
        for row in change(cutting, deed)]
    return (across, upwards)


def _less_over(measure, one, other):
    """Return the opposite of a quotient."""
    return root_less(measure, NOUGHT, root_over(measure, one, other))
