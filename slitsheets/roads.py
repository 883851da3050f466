"""Roads: words of few deeds that lead from one cutting to another, however great both are."""

from math import gcd

from slitsheets.cuttings import check_two_cuttings, measure_of
from slitsheets.deeds import is_word, led, led_back
from slitsheets.heart import heart_numbered, how_many_heart, word_to_heart
from slitsheets.lots import joined
from slitsheets.ways import shortest_word

# For each greater measure up to 100,000 it was tried that four deeds lead through the heart as they do here. For some
# lesser ones, the last of them 169, they do not; these have few cuttings.
GREATEST_SEARCHED = 200


def road(one, other):
    """Return a word of at most 12 deeds that leads to another cutting, None if no word does."""
    if not joined(one, other):
        return None
    if measure_of(one) <= GREATEST_SEARCHED:
        return shortest_word(one, other)
    inwards = word_to_heart(one)
    inwards_there = word_to_heart(other)
    within = _word_within_heart(led(one, inwards), led(other, inwards_there))
    return inwards + within + led_back(other, inwards_there)


def is_road(one, other, value):
    """Return whether a value is a word that leads to another cutting."""
    check_two_cuttings(one, other)
    return is_word(one, value) and led(one, value) == other


def _word_within_heart(one, other):
    """Return a word of four deeds, at most, between two joined cuttings of a heart.

    From the first cuttings of the heart deeds lead almost everywhere in it, and so back to them: the word goes
    there, over to one that is first for the other end, and out again.
    """
    if one == other:
        return []
    first, last = _first_step(one), _first_step(other)
    ends = [one, first, _between(first, last), last, other]
    return [_deed_within_heart(ends[at], ends[at + 1]) for at in range(4)]


def _first_step(cutting):
    """Return the first cutting of the heart to which a deed leads from one of it."""
    measure = measure_of(cutting)
    number = 0
    while not _is_step(cutting, heart_numbered(measure, number)):
        number += 1
    return heart_numbered(measure, number)


def _between(one, other):
    """Return the last cutting of the heart to which deeds lead from two of its first ones."""
    measure = measure_of(one)
    number = how_many_heart(measure) - 1
    while not _are_steps(one, other, heart_numbered(measure, number)):
        number -= 1
    return heart_numbered(measure, number)


def _are_steps(one, other, cutting):
    """Return whether a deed leads to a cutting of the heart from each of two others."""
    return _is_step(one, cutting) and _is_step(other, cutting)


def _is_step(one, other):
    """Return whether a deed leads from one cutting of the heart to another one."""
    _, b, _, _ = one
    q = _step(one, other)
    return q >= 1 and gcd(q, b) == 1


def _step(one, other):
    """Return the q of the deeds that lead from one cutting of the heart to another one, if there are any."""
    return -(one[3] + other[3]) // 2


def _deed_within_heart(one, other):
    q = _step(one, other)
    return (0, 1) if q == 1 else (1, q)
