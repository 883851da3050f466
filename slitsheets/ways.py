"""Words that lead from one cutting to another: the shortest ones, and all of a told length in order."""

from slitsheets.cuttings import check_cutting, check_two_cuttings
from slitsheets.deeds import LONGEST_WORD, all_deeds, behind, is_word, passed
from slitsheets.errors import InvalidNumber, InvalidWord
from slitsheets.wholes import is_whole

LONGEST_NUMBERED = 60


def shortest_word(one, other):
    """Return the first word, in order, of those with the fewest deeds to another cutting, None if there are none."""
    check_two_cuttings(one, other)
    # As many deeds lead from one to the other as back: how far it is hangs on no direction.
    far = _distances(other)
    if one not in far:
        return None
    word = []
    here = one
    while here != other:
        word.append(_first_nearer(here, far))
        here = behind(here, word[-1])
    return word


def is_shortest(one, other, value):
    """Return whether a value is a word that leads to another cutting, with the fewest deeds."""
    check_two_cuttings(one, other)
    if not is_word(one, value) or passed(one, value)[-1] != other:
        return False
    return len(value) == how_far(one, other)


def how_far(one, other):
    """Return how many deeds at least lead to another cutting, None if none do."""
    check_two_cuttings(one, other)
    return _distances(one).get(other)


def farthest(cutting):
    """Return how far the farthest cuttings are, and the first of them in order."""
    check_cutting(cutting)
    far = _distances(cutting)
    most = max(list(far.values()))
    return (most, min([other for other in far if far[other] == most]))


def how_many_far(cutting):
    """Return the list of how many cuttings are 0, 1, 2 and so on deeds far."""
    check_cutting(cutting)
    far = _distances(cutting)
    told = list(far.values())
    return [told.count(distance) for distance in range(max(told) + 1)]


def how_many_words(one, other, length):
    """Return how many words of a told length lead to another cutting."""
    check_two_cuttings(one, other)
    _check_length(length)
    return _how_many(one, other, length)


def word_numbered(one, other, length, number):
    """Return the word of a told length to another cutting ahead of which, in order, just so many are."""
    check_two_cuttings(one, other)
    _check_length(length)
    if not is_whole(number) or number < 0 or number >= _how_many(one, other, length):
        raise InvalidNumber(number)
    counts = _counts_to(other, length)
    word = []
    here = one
    for left in reversed(range(length)):
        deed, number = _deed_at(here, counts[left], number)
        word.append(deed)
        here = behind(here, deed)
    return word


def word_number(one, word):
    """Return how many words of the same length that lead to the same cutting are ahead of a word."""
    if not is_word(one, word) or len(word) > LONGEST_NUMBERED:
        raise InvalidWord(word)
    way = passed(one, word)
    counts = _counts_to(way[-1], len(word))
    return sum([_many_ahead(way[at], counts[len(word) - at - 1], word[at]) for at in range(len(word))])


def _check_length(length):
    if not is_whole(length) or length < 0:
        raise InvalidNumber(length)


def _followers(cutting):
    """Return the list of the cuttings to which the deeds of a cutting lead, in the order of the deeds."""
    return [behind(cutting, deed) for deed in all_deeds(cutting)]


def _distances(cutting):
    """Return a dict of how far from a cutting each one of its lot is."""
    far = {cutting: 0}
    rim = [cutting]
    while len(rim) > 0:
        found = []
        for one in rim:
            for other in _followers(one):
                if other not in far:
                    far[other] = far[one] + 1
                    found.append(other)
        rim = found
    return far


def _first_nearer(cutting, far):
    """Return the first deed, in order, that leads to a cutting that is less far."""
    return min([deed for deed in all_deeds(cutting) if far[behind(cutting, deed)] < far[cutting]])


def _how_many(one, other, length):
    # What has more deeds is no word.
    if length > LONGEST_WORD:
        return 0
    return _counts_to(other, length)[length].get(one, 0)


def _counts_to(cutting, length):
    """Return, for each length from 0 on, a dict of how many such words lead to a cutting from each of its lot."""
    followers = {other: _followers(other) for other in _distances(cutting)}
    counts = [{other: 1 if other == cutting else 0 for other in followers}]
    for _ in range(length):
        shorter = counts[-1]
        counts.append({other: sum([shorter[one] for one in followers[other]]) for other in followers})
    return counts


def _deed_at(cutting, counts, number):
    """Return the first deed of the word with a number, and the number of what is left of the word behind this deed.

    The counts tell, for each cutting, how many words may be left there.
    """
    told = all_deeds(cutting)
    at = 0
    while number >= counts[behind(cutting, told[at])]:
        number -= counts[behind(cutting, told[at])]
        at += 1
    return (told[at], number)


def _many_ahead(cutting, counts, deed):
    """Return how many words begin with a deed ahead of one; the counts are as in _deed_at."""
    return sum([counts[behind(cutting, other)] for other in all_deeds(cutting) if other < deed])
