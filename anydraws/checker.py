"""The checker: which claims are so, by their papers or by themselves.

It trusts no part of a claim or a paper before this is found to be of the told form. What is wrong
with a part that stands as an argument is told by the errors of the function that takes it.
"""

from anydraws.bands import band_sureness
from anydraws.centres import centre_sureness
from anydraws.checks import check_share, check_wish, is_fraction, is_tuple
from anydraws.errors import DrawError
from anydraws.further import further_groups
from anydraws.held import groups_sureness
from anydraws.places import places_sureness
from anydraws.ratios import is_below, plus, times
from anydraws.sayings import check_saying, saying_chance
from anydraws.shifts import shift_sureness
from anydraws.words import (
    chance_of, check_power, check_words, is_closed_up, is_word, just_above, letter_counts, words_beside,
)

_NIL = (0, 1)
_ONE = (1, 1)


def is_row_of_fractions(value, length):
    return is_tuple(value) and len(value) == length and all(is_fraction(number) for number in value)


def is_pair_of_words(value):
    return is_tuple(value) and len(value) == 2 and all(is_word(word) for word in value)


def sum_of(numbers):
    total = _NIL
    for number in numbers:
        total = plus(total, number)
    return total


def sum_of_products(numbers, others):
    return sum_of([times(number, other) for number, other in zip(numbers, others)])


def shows_possible(parts, paper):
    saying = parts[0]
    check_saying(saying)
    if not is_row_of_fractions(paper, len(saying[0])) or sum_of(paper) != _ONE:
        return False
    return all(block[0] > 0 for block in paper) and all(sum_of_products(row, paper)[0] > 0 for row in saying)


def shows_impossible(parts, paper):
    saying = parts[0]
    check_saying(saying)
    if not is_row_of_fractions(paper, len(saying)):
        return False
    if any(weight[0] < 0 for weight in paper) or all(weight[0] == 0 for weight in paper):
        return False
    columns = [[row[k] for row in saying] for k in range(len(saying[0]))]
    return all(sum_of_products(column, paper)[0] <= 0 for column in columns)


def shows_not_closed_up(parts, paper):
    words = parts[0]
    check_words(words)
    if not is_pair_of_words(paper):
        return False
    word, above = paper
    return word in words and above in just_above(word) and above not in words


def shows_best(parts, paper):
    words, power = parts
    check_words(words)
    check_power(power)
    if not is_fraction(paper):
        return False
    others = [word for word in words_beside(words) if word not in words]
    if any(is_below(chance_of(word, power), paper) for word in words):
        return False
    return not any(is_below(paper, chance_of(word, power)) for word in others)


def shows_not_best(parts, paper):
    words, power = parts
    check_words(words)
    check_power(power)
    if not is_pair_of_words(paper):
        return False
    word, other = paper
    if word not in words or other in words or letter_counts(other) != letter_counts(word):
        return False
    return is_below(chance_of(word, power), chance_of(other, power))


def has_share(parts):
    saying, share = parts
    check_share(share)
    return not is_below(saying_chance(saying), share)


def is_sure_band(parts):
    band, share = parts
    check_share(share)
    return not is_below(band_sureness(band), share)


def has_places(parts):
    count, claims, wish = parts
    check_wish(wish)
    return not is_below(places_sureness(count, claims), wish)


def has_held(parts):
    count, groups, wish = parts
    check_wish(wish)
    return not is_below(groups_sureness(count, groups), wish)


def has_further(parts):
    count, further, groups, wish = parts
    check_wish(wish)
    return not is_below(further_groups(count, further, groups), wish)


def has_all_above(parts):
    return is_closed_up(parts[0])


def is_shift(parts):
    n, m, i, j, share = parts
    check_share(share)
    return shift_sureness(n, m, i, j) == share


def is_centre(parts):
    n, i, j, share = parts
    check_share(share)
    return centre_sureness(n, i, j) == share


_PARTS = {
    "possible": 1, "impossible": 1, "at least": 2, "less": 2, "sure band": 2, "less sure": 2,
    "places": 3, "places less": 3, "held": 3, "held less": 3, "further": 4, "further less": 4,
    "closed up": 1, "not closed up": 1, "best": 2, "not best": 2, "shift": 5, "centre": 4,
}
_SHOWN_BY_PAPER = {
    "possible": shows_possible, "impossible": shows_impossible, "not closed up": shows_not_closed_up,
    "best": shows_best, "not best": shows_not_best,
}
_SO = {
    "at least": has_share, "sure band": is_sure_band, "places": has_places, "held": has_held,
    "further": has_further, "closed up": has_all_above, "shift": is_shift, "centre": is_centre,
}
_NOT_SO = {
    "less": has_share, "less sure": is_sure_band, "places less": has_places, "held less": has_held,
    "further less": has_further,
}


def accepts(claim, paper):
    # Only a string of Python's own is looked up: anything else may raise when it is compared.
    if not is_tuple(claim) or len(claim) == 0 or type(claim[0]) is not str:
        return False
    kind, parts = claim[0], claim[1:]
    if kind not in _PARTS or _PARTS[kind] != len(parts):
        return False
    try:
        return is_shown(kind, parts, paper)
    except DrawError:
        return False


def is_shown(kind, parts, paper):
    if kind in _SHOWN_BY_PAPER:
        judge = _SHOWN_BY_PAPER[kind]
        return judge(parts, paper)
    if not is_tuple(paper) or len(paper) > 0:
        return False
    if kind in _SO:
        judge = _SO[kind]
        return judge(parts)
    judge = _NOT_SO[kind]
    return not judge(parts)
