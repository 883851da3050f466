"""Tables: four lists of four whole numbers, which lead the paths of the sheet behind a deed to those ahead of it."""

from math import gcd

from slitsheets.cuttings import check_cutting
from slitsheets.deeds import back, behind, check_deed, passed
from slitsheets.divisors import bezout, inverse
from slitsheets.errors import InvalidNumber, InvalidTable
from slitsheets.paths import check_path, crossing, is_path
from slitsheets.wholes import is_whole

# The base path that crosses each base path once.
PARTNERS = (1, 0, 3, 2)


def led_path(table, path):
    """Return the path to which a table leads a path."""
    _check_table(table)
    check_path(path)
    return [_paired(row, path) for row in table]


def table_product(one, other):
    """Return the table that leads paths as the second one of two tables and then the first one."""
    _check_table(one)
    _check_table(other)
    columns = _turned_over(other)
    return [[_paired(row, column) for column in columns] for row in one]


def keeps_crossings(table):
    """Return whether two paths always cross as often as those to which a table leads them."""
    _check_table(table)
    base, led = unmoving_table(), _turned_over(table)
    return all([crossing(led[x], led[y]) == crossing(base[x], base[y]) for x in range(4) for y in range(4)])


def table_back(table):
    """Return the table whose products with a table lead each path to itself, if this one keeps crossings."""
    if not keeps_crossings(table):
        raise InvalidTable(table)
    # How much a path has of a base path is told, but for the sign, by how often it crosses the partner of this one;
    # and the path led back crosses a path as often as the path itself crosses the one to which this one is led.
    return [[table[PARTNERS[y]][PARTNERS[x]] * _crossing_side(x, y) for y in range(4)] for x in range(4)]


def deed_table(cutting, deed):
    """Return the table of a deed of a cutting."""
    check_deed(cutting, deed)
    return _table_of(cutting, deed)


def word_table(cutting, word):
    """Return the product of the tables of the deeds of a word."""
    way = passed(cutting, word)
    table = unmoving_table()
    for at in range(len(word)):
        table = table_product(table, _table_of(way[at], word[at]))
    return table


def shear_table(cutting, times):
    """Return the table that shears both pieces of a sheet along their lower sides, so many times."""
    check_cutting(cutting)
    if not is_whole(times):
        raise InvalidNumber(times)
    _, b, c, _ = cutting
    common = gcd(b, c)
    return [[1, times * (b // common), 0, 0], [0, 1, 0, 0], [0, 0, 1, times * (c // common)], [0, 0, 0, 1]]


def back_shear(cutting, deed):
    """Return how many times to shear between a deed and what is back for it, so that the way out is turned about."""
    table = deed_table(cutting, deed)
    p1, q1 = back(cutting, deed)
    _, b1, c1, _ = behind(cutting, deed)
    # What is back leads the base path 0 to p1 times 2 and q1 times 3; of 1, nothing may be left of it behind the
    # table of the deed, which leads 2 to q1 times 1 and 3 to table[1][3] times 1, and whatever else.
    return -(p1 + table[1][3]) // (q1 * (c1 // gcd(b1, c1)))


def unmoving_table():
    """Return the table that leads each path to itself."""
    return [[1 if x == y else 0 for y in range(4)] for x in range(4)]


def _check_table(table):
    if not isinstance(table, list) or len(table) != 4 or not all([is_path(row) for row in table]):
        raise InvalidTable(table)


def _paired(row, path):
    return sum([row[at] * path[at] for at in range(4)])


def _turned_over(table):
    """Return the list of the paths to which a table leads the base paths."""
    return [[row[at] for row in table] for at in range(4)]


def _crossing_side(x, y):
    return 1 if (x + y) % 2 == 0 else -1


def _table_of(cutting, deed):
    """Return the table of a deed, where both are known to be a cutting and a deed of it.

    The letters are those of the document's points on deeds, as in slitsheets.deeds. The root's work on the paths
    [0, 0, p, q] and [1, 0, x, z] tells where the base paths 2 and 3 have to be led.
    """
    a, b, c, e = cutting
    p, q = deed
    a1, b1, c1, _ = behind(cutting, deed)
    x, z = _upward_path(cutting, deed)
    i, j = (p * b + q * a) // c1, q * c // c1
    k, l = x * b + z * a + e + q * c, z * c
    along = _sum_of_two(i, j, deed)
    aslant = _sum_of_two((k + a1 * i) // b1, (l + a1 * j) // b1, deed)
    return _turned_over([[0, 0, p, q], [1, 0, x, z], along, aslant])


def _upward_path(cutting, deed):
    """Return the x and z of the path [1, 0, x, z] to which the table of a deed leads the base path 1."""
    a, b, c, e = cutting
    p, q = deed
    a1, b1, c1, _ = behind(cutting, deed)
    common = gcd(b1, c1)
    _, z, _ = bezout(p, q)
    z = z % q
    x = (p * z - 1) // q
    _, s, t = bezout((p * b + q * a) // c1, q * c // c1)
    # So many times p and q more put c1 times as many to what has to be the opposite of a1 by b1.
    missing = -(s * (x * b + z * a + e + q * c) + t * z * c + a1) // common
    times = missing * inverse(c1 // common, b1 // common) % (b1 // common)
    return (x + times * p, z + times * q)


def _sum_of_two(times, times_aslant, deed):
    """Return the path that is so many times [1, 0, 0, 0] and so many times [0, 1, p, q]."""
    p, q = deed
    return [times, times_aslant, times_aslant * p, times_aslant * q]
