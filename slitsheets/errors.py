"""The errors of the package.

Each of them keeps its field by itself: SheetError has none, and nothing stands between it and them.
"""


class SheetError(ValueError):
    """What all errors of the package are."""


class InvalidMeasure(SheetError):
    """Bears what is no measure, where one is asked for."""

    def __init__(self, value=None):
        self.value = value


class InvalidNumber(SheetError):
    """Bears what is no whole number, or none of those that are asked for."""

    def __init__(self, value=None):
        self.value = value


class InvalidRoot(SheetError):
    """Bears what is no root number of a measure, or must not stand for 0 and does."""

    def __init__(self, value=None):
        self.value = value


class InvalidCutting(SheetError):
    """Bears what is no cutting, or none of those that are asked for."""

    def __init__(self, value=None):
        self.value = value


class InvalidDeed(SheetError):
    """Bears what is no deed of a cutting."""

    def __init__(self, value=None):
        self.value = value


class InvalidWord(SheetError):
    """Bears what is no word, or none of those that are asked for."""

    def __init__(self, value=None):
        self.value = value


class InvalidList(SheetError):
    """Bears what is no path."""

    def __init__(self, value=None):
        self.value = value


class InvalidPoint(SheetError):
    """Bears what is no vector, place or point of those that are asked for."""

    def __init__(self, value=None):
        self.value = value


class InvalidTable(SheetError):
    """Bears what is no table, or none of those that are asked for."""

    def __init__(self, value=None):
        self.value = value


class InvalidFloor(SheetError):
    """Bears what is no floor of squares."""

    def __init__(self, value=None):
        self.value = value


class Unlike(SheetError):
    """Bears the second of two cuttings that have not one measure."""

    def __init__(self, value=None):
        self.value = value


class TooMany(SheetError):
    """Bears the number of things that are too many to be told."""

    def __init__(self, value=None):
        self.value = value
