"""The sign of a cutting, which all deeds keep, and lots: the cuttings that words lead to one another."""

from slitsheets.cuttings import all_cuttings, check_cutting, check_two_cuttings, is_cutting, measure_of
from slitsheets.deeds import all_deeds, behind
from slitsheets.errors import InvalidNumber
from slitsheets.measures import check_measure, factor
from slitsheets.wholes import is_whole


def sign(cutting):
    """Return the sign of a cutting, 0 or 1, None where its measure has no signs."""
    measure = measure_of(cutting)
    if not _has_signs(measure):
        return None
    # For a measure that leaves 1 by 8 each odd square leaves a quotient that does so, too: its factor is f.
    return (_doubled_sign(cutting) - factor(measure)) // 2 % 2


def joined(one, other):
    """Return whether some word leads from a cutting to another one of its measure."""
    check_two_cuttings(one, other)
    return _are_joined(one, other)


def lots(measure):
    """Return the list of the lots of a measure, the one with the first cutting first."""
    check_measure(measure)
    told = all_cuttings(measure)
    first = [cutting for cutting in told if _are_joined(told[0], cutting)]
    second = [cutting for cutting in told if not _are_joined(told[0], cutting)]
    return [lot for lot in [first, second] if len(lot) > 0]


def lot_sizes(measure):
    """Return the list of how many cuttings the lots of a measure have."""
    return [len(lot) for lot in lots(measure)]


def lot_of(cutting):
    """Return the list of the cuttings that are joined to one, in order."""
    return [other for other in all_cuttings(measure_of(cutting)) if _are_joined(cutting, other)]


def lot_number(cutting):
    """Return how many cuttings of its lot are ahead of a cutting."""
    return len([other for other in lot_of(cutting) if other < cutting])


def lot_numbered(cutting, number):
    """Return the cutting of the lot of one ahead of which just so many of this lot are."""
    check_cutting(cutting)
    if not is_whole(number) or number < 0:
        raise InvalidNumber(number)
    lot = lot_of(cutting)
    if number >= len(lot):
        raise InvalidNumber(number)
    return lot[number]


def next_in_lot(cutting):
    """Return the first cutting of its lot behind a cutting, None behind the last one."""
    return min([other for other in lot_of(cutting) if other > cutting], default=None)


def is_lot(value):
    """Return whether a value is the list of the cuttings of a lot, in order."""
    return _is_list_of_cuttings(value) and value == lot_of(value[0])


def is_closed(value):
    """Return whether a value is a list of cuttings of one measure, in order, that no deed leads out of."""
    if not _is_list_of_cuttings(value):
        return False
    if any([value[at] >= value[at + 1] for at in range(len(value) - 1)]):
        return False
    if any([measure_of(cutting) != measure_of(value[0]) for cutting in value]):
        return False
    within = {cutting: True for cutting in value}
    return all([_leads_into(cutting, within) for cutting in value])


def _has_signs(measure):
    return measure % 8 == 1 and measure != 9


def _doubled_sign(cutting):
    """Return a number that, less the factor of the measure, is twice a number whose rest by 2 is the sign."""
    a, b, c, e = cutting
    return e + 2 * (c + 1) * (a + b + a * b)


def _are_joined(one, other):
    """Return whether two cuttings of one measure are joined."""
    if not _has_signs(measure_of(one)):
        return True
    return (_doubled_sign(one) - _doubled_sign(other)) % 4 == 0


def _is_list_of_cuttings(value):
    """Return whether a value is a list of cuttings, at least one."""
    if not isinstance(value, list) or len(value) == 0:
        return False
    return all([is_cutting(item) for item in value])


def _leads_into(cutting, within):
    """Return whether every deed of a cutting leads to a key of a dict."""
    return all([behind(cutting, deed) in within for deed in all_deeds(cutting)])
