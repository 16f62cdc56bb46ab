"""The chance that evens in order keep to a box."""

from itertools import accumulate
from math import comb

from anydraws.ratios import common_divisor, power, reduced, scaled


def kept_chance(lows, highs):
    """The chance that the evens u_i keep to lows_i <= u_i <= highs_i for all i.

    It is n! times Steck's determinant. Below its diagonal the table has only the ones beside it,
    so the determinant of its first k rows and columns comes of those before: by the last column,
    signs changing. Times k! each of them is whole over the k-th power of the common divisor.
    """
    whole = common_divisor(lows + highs)
    least = list(accumulate(scaled(lows, whole), max))
    most = list(accumulate(scaled(highs[::-1], whole), min))[::-1]
    if any(low >= high for low, high in zip(least, most)):
        return (0, 1)
    chances = [1]
    for low in least:
        chances.append(next_chance(chances, low, most))
    return reduced(chances[-1], power(whole, len(least)))


def next_chance(chances, low, most):
    """The k-th determinant, times k!, from those before it; low is the k-th one."""
    k = len(chances)
    total = 0
    for i in range(k):
        part = comb(k, i) * power(max(0, most[i] - low), k - i) * chances[i]
        total = total - part if (k - i) % 2 == 0 else total + part
    return total
