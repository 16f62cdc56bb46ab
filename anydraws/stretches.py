"""From the i-th to the j-th of several numbers in order: the ends, the sureness, the best ones.

Counts are for each s how many orders, all as likely, leave just s of the numbers below an unknown
one; so from the i-th to the j-th it is in those with s from i on and below j.
"""

from anydraws.checks import check_number_within
from anydraws.ratios import is_below, reduced


def check_ends(i, j, many):
    """Checks the ends of a stretch of so many numbers in order, one end below and one above all."""
    check_number_within(i, 0, many)
    check_number_within(j, i + 1, many + 1)


def ends_of(numbers, i, j):
    """The i-th and the j-th, counted from 1; None for an end below or above all of them."""
    low = numbers[i - 1] if i > 0 else None
    high = numbers[j - 1] if j <= len(numbers) else None
    return (low, high)


def sureness_between(counts, i, j):
    return reduced(sum(counts[i:j]), sum(counts))


def best_even_start(counts, wish):
    """The greatest i from which a stretch that leaves as much at both ends is as sure as wished."""
    many = len(counts) - 1
    whole = sum(counts)
    for i in range(many // 2, 0, -1):
        if not is_below((sum(counts[i:many + 1 - i]), whole), wish):
            return i
    # From below to above all numbers it is always sure enough.
    return 0
