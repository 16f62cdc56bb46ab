"""Reckoning with fractions, which are pairs (n, m) in their least terms with m above 0."""

from math import gcd, lcm


def reduced(n, m):
    """The fraction n / m, m being a whole number above 0."""
    common = gcd(n, m)
    return (n // common, m // common)


def plus(a, b):
    return reduced(a[0] * b[1] + b[0] * a[1], a[1] * b[1])


def minus(a, b):
    return reduced(a[0] * b[1] - b[0] * a[1], a[1] * b[1])


def times(a, b):
    return reduced(a[0] * b[0], a[1] * b[1])


def is_below(a, b):
    return a[0] * b[1] < b[0] * a[1]


def lesser(a, b):
    return b if is_below(b, a) else a


def greater(a, b):
    return b if is_below(a, b) else a


def common_divisor(fractions):
    """The least whole number above 0 by which all these fractions become whole."""
    least = 1
    for fraction in fractions:
        least = lcm(least, fraction[1])
    return least


def scaled(fractions, factor):
    """The fractions times a factor that makes them whole, as whole numbers."""
    return [n * (factor // m) for n, m in fractions]


def power(base, exponent):
    worth = 1
    for _ in range(exponent):
        worth = worth * base
    return worth


def powers(base, most):
    """The powers of the base with the exponents from 0 to most."""
    worths = [1]
    for _ in range(most):
        worths.append(worths[-1] * base)
    return worths


def unit_rows(count):
    """For each of so many places the row with 1 there and 0 elsewhere."""
    return [[1 if j == k else 0 for j in range(count)] for k in range(count)]
