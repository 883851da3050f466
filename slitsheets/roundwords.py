"""Words that come round: what they do to paths, told by two whole numbers, and the powers of their tables."""

from slitsheets.cuttings import measure_of
from slitsheets.deeds import led
from slitsheets.errors import InvalidNumber, InvalidWord
from slitsheets.rootnumbers import root_number, root_side
from slitsheets.tables import led_path, table_back, table_product, unmoving_table, word_table
from slitsheets.wholes import is_whole

GREATEST_POWER = 300
GREATEST_ORDER = 12


def round_numbers(cutting, word):
    """Return (m, n): led by a word and led back, a path sums to m times itself and n times its root_path."""
    table = _round_table(cutting, word)
    _, _, c, e = cutting
    base = [1, 0, 0, 0]
    there, back = led_path(table, base), led_path(table_back(table), base)
    # The root_path of this base path is [e, 0, c, 0].
    n = (there[2] + back[2]) // c
    return (there[0] + back[0] - n * e, n)


def round_kind(cutting, word):
    """Return "turn", "shear" or "stretch": whether the trace, without its sign, is below 2, is 2 or is above 2."""
    m, n = round_numbers(cutting, word)
    side = _trace_side(cutting, m - 2, n) * _trace_side(cutting, m + 2, n)
    if side == 0:
        return "shear"
    return "turn" if side < 0 else "stretch"


def round_power(cutting, word, times):
    """Return the table of a word that comes round taken so many times as a factor, below 0 that of the way back."""
    table = _round_table(cutting, word)
    if not is_whole(times) or abs(times) > GREATEST_POWER:
        raise InvalidNumber(times)
    if times < 0:
        table = table_back(table)
    return _power(table, abs(times))


def round_order(cutting, word):
    """Return the least power of a word that comes round that leads each path to itself, None if there is none."""
    table = _round_table(cutting, word)
    power = table
    for order in range(1, GREATEST_ORDER + 1):
        if power == unmoving_table():
            return order
        power = table_product(power, table)
    return None


def _round_table(cutting, word):
    """Return the table of a word; raise InvalidWord unless it comes round."""
    if led(cutting, word) != cutting or len(word) == 0:
        raise InvalidWord(word)
    return word_table(cutting, word)


def _power(table, times):
    power = unmoving_table()
    while times > 0:
        if times % 2 == 1:
            power = table_product(power, table)
        table = table_product(table, table)
        times //= 2
    return power


def _trace_side(cutting, m, n):
    """Return -1, 0 or 1: the side of 0 on which the sum of m and n times the side of the square lies."""
    measure = measure_of(cutting)
    return root_side(measure, root_number(measure, 2 * m + n * cutting[3], n, 2))
