"""Where the centre is around which a distribution is even."""

from anydraws.checks import check_number, check_wish, is_fraction, is_tuple
from anydraws.errors import InvalidFraction, InvalidWord, NotApart
from anydraws.lots import check_values
from anydraws.ratios import common_divisor, reduced, scaled
from anydraws.stretches import best_even_start, check_ends, ends_of, sureness_between
from anydraws.words import is_letter

_MOST_DRAWS = 20


def check_centre(centre):
    if not is_fraction(centre):
        raise InvalidFraction(centre)


def check_sign_word(word):
    if not is_tuple(word) or not 1 <= len(word) <= _MOST_DRAWS or not all(is_letter(letter) for letter in word):
        raise InvalidWord(word)


def how_many_means(n):
    return n * (n + 1) // 2


def sum_counts(n):
    check_number(n, _MOST_DRAWS)
    return tuple(lots_by_sum(n))


def lots_by_sum(n):
    """How many lots of the numbers 1 to n have the sums 0, 1, .."""
    counts = [1]
    for number in range(1, n + 1):
        without = counts + [0] * number
        beside = [0] * number + counts
        counts = [here + there for here, there in zip(without, beside)]
    return counts


def centre_sureness(n, i, j):
    check_number(n, _MOST_DRAWS)
    check_ends(i, j, how_many_means(n))
    return sureness_between(lots_by_sum(n), i, j)


def means_of_two(values):
    check_values(values, _MOST_DRAWS)
    return tuple(means_in_order(values))


def means_in_order(values):
    whole = common_divisor(values)
    numbers = scaled(values, whole)
    sums = sorted([number + other for k, number in enumerate(numbers) for other in numbers[k:]])
    return [reduced(total, 2 * whole) for total in sums]


def centre_stretch(values, i, j):
    check_values(values, _MOST_DRAWS)
    check_ends(i, j, how_many_means(len(values)))
    return ends_of(means_in_order(values), i, j)


def best_centre(n, wish):
    check_number(n, _MOST_DRAWS)
    check_wish(wish)
    return best_even_start(lots_by_sum(n), wish)


def sign_word(values, centre):
    check_values(values, _MOST_DRAWS)
    check_centre(centre)
    whole = common_divisor(values + (centre,))
    middle = scaled((centre,), whole)[0]
    steps = [number - middle for number in scaled(values, whole)]
    order = sorted([(abs(step), 1 if step > 0 else 0) for step in steps])
    # A distance of 0 is told ahead of all, so that none may be the same as the one before it.
    sizes = [0] + [size for size, _ in order]
    if any(size == before for size, before in zip(sizes[1:], sizes)):
        raise NotApart()
    return tuple([letter for _, letter in order])


def low_sum(word):
    check_sign_word(word)
    return sum([k + 1 for k, letter in enumerate(word) if letter == 0])
