"""Vectors, places and points for several tests, good ones and wrong ones."""

from slitsheets.errors import InvalidPoint, InvalidRoot
from support import any_values, nested

NOUGHT = (0, 0, 1)
BENT, WHOLE, FLAT = (1, 2, 2, -1), (0, 2, 1, -1), (0, 15, 1, 0)

# For no measure a vector, whatever its root.
NO_VECTORS = any_values() + [
    0, 7, (0, 1), (1, 2, 2, -1), NOUGHT, (NOUGHT,), (NOUGHT, NOUGHT, NOUGHT), [NOUGHT, NOUGHT], (NOUGHT, None),
    (None, NOUGHT), (NOUGHT, [0, 0, 1]), ([0, 0, 1], NOUGHT), (NOUGHT, (0, 0)), ((0, 0, 1, 0), NOUGHT), (NOUGHT, 0),
    ((0, 0, 2), NOUGHT), (NOUGHT, (2, 2, 4)), ((1, 0, 0), NOUGHT), (NOUGHT, (1, 0, -1)), ((0, 0, -1), NOUGHT),
    ((True, 0, 1), (1, 0, 1)), ((1, False, 1), (1, 0, 1)), ((1, 0, True), (1, 0, 1)), ((1, 0, 1), (True, 0, 1)),
    ((1, 0, 1), (1, False, 1)), ((1, 0, 1), (1, 0, True)), ((1, None, 1), (1, 0, 1)), ((1, 0, 1), ("1", 0, 1)),
    ((1, 0, 1), (1, (0,), 1)), (True, False), ("1", "0"), ({}, NOUGHT), (NOUGHT, InvalidRoot()), (nested(29), NOUGHT),
    {0: NOUGHT, 1: NOUGHT}, InvalidPoint((NOUGHT, NOUGHT)), (NOUGHT, ((0, 0, 1),)), (10 ** 29, 10 ** 29),
    ((10 ** 29, 0, 10 ** 28), NOUGHT), ((10 ** 29, 10 ** 29, 10 ** 29), (1, 0, 1))]
# Vectors of the measure 17, but no places in the sheet of BENT, whose square has a side between 1 and 2.
OUTSIDE_BENT = [
    ((-1, 0, 1), NOUGHT), ((3, 0, 1), NOUGHT), ((1, 0, 1), (4, 0, 1)), (NOUGHT, (2, 0, 1)), ((3, 0, 1), (3, 0, 1)),
    ((1, 0, 1), (-1, 0, 1)), ((1, 0, 1), (-1, 0, 10 ** 29)), ((0, 0, 1), (1, 0, 1)), ((0, 0, 1), (1, 0, 10 ** 29)),
    ((13, 0, 5), (5, 0, 2)), ((9, 0, 10), (3, 0, 1)), ((1, 0, 1), (0, 1, 1)), ((0, -1, 1), (1, 0, 1)),
    ((10 ** 29, 0, 1), (1, 0, 1)), ((1, 0, 1), (10 ** 29, 10 ** 29 + 1, 1)), ((7, 0, 2), (2, 0, 1))]
# Places that are points, but not told by the names of these.
UNNAMED_BENT = [
    ((1, 0, 1), (2, 0, 1)), ((2, 0, 1), NOUGHT), ((-1, 1, 2), NOUGHT), ((3, 0, 1), (2, 0, 1)), ((1, 1, 2), (2, 0, 1)),
    ((1, 1, 2), (3, 1, 2)), ((1, 0, 1), (3, 1, 2)), ((5, 0, 2), (1, 0, 1)), ((14, 0, 5), (2, 0, 1)),
    ((1, 1, 2), (3, 0, 1)), ((2, 0, 1), (3, 1, 2))]
POINTS_BENT = [
    ((1, 0, 1), (1, 0, 1)), ((1, 0, 1), NOUGHT), ((9, 0, 5), NOUGHT), ((1, 0, 2), (1, 0, 1)), ((1, 0, 1), (3, 0, 1)),
    ((2, 0, 1), (2, 0, 1)), ((5, 0, 2), (2, 0, 1)), ((2, 0, 1), (3, 0, 1)), ((-17, 5, 7), (11, -1, 8))]
VECTORS_17 = [
    ((1, 0, 1), (-1, 0, 1)), (NOUGHT, NOUGHT), ((0, 1, 1), NOUGHT), (NOUGHT, (3, 0, 1)), ((1, 1, 2), (-2, 0, 1)),
    ((-3, 2, 5), (7, -1, 3))]
