"""By how much one lot of draws is moved against another one."""

from anydraws.checks import check_wish
from anydraws.lots import check_counts_of_lots, check_lots
from anydraws.ratios import common_divisor, reduced, scaled
from anydraws.stretches import best_even_start, check_ends, ends_of, sureness_between

_MOST_DRAWS = 20


def pair_counts(n, m):
    check_counts_of_lots(n, m, _MOST_DRAWS)
    return tuple(words_by_pairs(n, m))


def words_by_pairs(n, m):
    """How many words of n a's and m b's have 0, 1, .. pairs of an a and a b behind it.

    Read from their end the counts are the same; so they are also those by pairs of a b and an a.
    """
    rows = [[1] for _ in range(m + 1)]
    for a in range(1, n + 1):
        rows = rows_with_one_more(rows, a)
    return rows[m]


def rows_with_one_more(rows, a):
    """From the counts for a - 1 a's and 0, 1, .. b's those for a of them.

    A word ends with an a, which makes no pair, or with a b, which makes one with each a.
    """
    further = [[1]]
    for shorter in rows[1:]:
        ending_with_b = [0] * a + further[-1]
        ending_with_a = shorter + [0] * (len(ending_with_b) - len(shorter))
        further.append([here + there for here, there in zip(ending_with_a, ending_with_b)])
    return further


def shift_sureness(n, m, i, j):
    check_counts_of_lots(n, m, _MOST_DRAWS)
    check_ends(i, j, n * m)
    return sureness_between(words_by_pairs(n, m), i, j)


def differences(first, second):
    check_lots(first, second, _MOST_DRAWS)
    return tuple(differences_in_order(first, second))


def differences_in_order(first, second):
    whole = common_divisor(first + second)
    ahead = scaled(first, whole)
    behind = scaled(second, whole)
    return [reduced(step, whole) for step in sorted([b - a for a in ahead for b in behind])]


def shift_stretch(first, second, i, j):
    check_lots(first, second, _MOST_DRAWS)
    check_ends(i, j, len(first) * len(second))
    return ends_of(differences_in_order(first, second), i, j)


def best_shift(n, m, wish):
    check_counts_of_lots(n, m, _MOST_DRAWS)
    check_wish(wish)
    return best_even_start(words_by_pairs(n, m), wish)
