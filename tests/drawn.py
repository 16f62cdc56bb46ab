"""What the tests share: fractions as pairs, drawn arguments, things of any kind."""

from collections import Counter
from fractions import Fraction
from itertools import combinations_with_replacement, product
from math import comb, factorial, gcd

nil, one = (0, 1), (1, 1)


def pair(number):
    number = Fraction(number)
    return (number.numerator, number.denominator)


def number(fraction):
    return Fraction(fraction[0], fraction[1])


def is_told_fraction(value):
    """Whether a value is a fraction just as the document tells it."""
    return (type(value) is tuple and len(value) == 2 and type(value[0]) is int
            and type(value[1]) is int and value[1] > 0 and gcd(value[0], value[1]) == 1)


def drawn_fraction(rng, low=-5, high=5, most=4):
    return pair(Fraction(rng.randint(low * 6, high * 6), 6 * rng.randint(1, most)))


def drawn_row(rng, count, **bounds):
    while True:
        row = tuple(drawn_fraction(rng, **bounds) for _ in range(count))
        if any(n != 0 for n, _ in row):
            return row


def drawn_saying(rng, rows=None, count=None, **bounds):
    count = count or rng.randint(2, 5)
    rows = rows or rng.randint(1, 8)
    return tuple(drawn_row(rng, count, **bounds) for _ in range(rows))


def drawn_share(rng, most=12):
    m = rng.randint(1, most)
    return pair(Fraction(rng.randint(0, m), m))


def drawn_inner_share(rng, most=12):
    m = rng.randint(2, most)
    return pair(Fraction(rng.randint(1, m - 1), m))


def drawn_atoms(rng, atoms=None, most=6):
    """Shares of so many atoms."""
    weights = [rng.randint(1, most) for _ in range(atoms or rng.randint(1, 5))]
    return tuple(pair(Fraction(weight, sum(weights))) for weight in weights)


def drawn_band(rng, n):
    low = (nil,) + tuple(drawn_share(rng, 8) for _ in range(n))
    high = tuple(drawn_share(rng, 8) for _ in range(n)) + (one,)
    return (low, high)


def wide_band(rng, n):
    """A band of n that may well be kept: its low is below half, its high above."""
    low = (nil,) + tuple(pair(number(drawn_share(rng, 6)) / 2) for _ in range(n))
    high = tuple(pair(1 - number(drawn_share(rng, 6)) / 2) for _ in range(n)) + (one,)
    return (low, high)


def drawn_stretches(rng, n, many):
    """So many stretches, each one from the end of the one before it on, or later."""
    while True:
        ends = sorted(rng.randint(0, n + 1) for _ in range(2 * many))
        stretches = list(zip(ends[::2], ends[1::2]))
        if all(i < j for i, j in stretches):
            return stretches


def all_throws(throws, chances):
    """All ways in which throws fall, alike counts together: pairs of the places in order and their chance."""
    for places in combinations_with_replacement(range(len(chances)), throws):
        chance = Fraction(factorial(throws))
        for place, number_of in Counter(places).items():
            chance *= chances[place] ** number_of
            chance /= factorial(number_of)
        yield places, chance


def lots_up_to(letters):
    """All pairs of two numbers of draws, each one at least, with so many letters together at most."""
    return [(n, m) for n in range(1, letters) for m in range(1, letters - n + 1)]


def own_words(n, m):
    """All words of n a's and m b's, ascending."""
    return [word for word in product((0, 1), repeat=n + m) if sum(word) == m]


def best_even(counts, wish):
    """The greatest i for which the counts from i on, as many left out at both ends, are as many as wished."""
    many = len(counts) - 1
    return max(i for i in range(many + 1) if i < many + 1 - i
               and Fraction(sum(counts[i:many + 1 - i]), sum(counts)) >= wish)


def opposite(row):
    return tuple((-n, m) for n, m in row)


def times(row, factor):
    return tuple(pair(number(h) * factor) for h in row)


def row_sum(row, blocks):
    return sum(number(h) * number(b) for h, b in zip(row, blocks))


def counted_chance(lows, highs):
    """The chance of a box, by counting how many draws come between which of its bounds.

    u_i is from l on just where at most i - 1 draws are below l, and up to h just where at least
    i draws are.
    """
    n = len(lows)
    lows = [number(low) for low in lows]
    highs = [number(high) for high in highs]
    ends = sorted({Fraction(0), Fraction(1), *lows, *highs})
    ways = {0: Fraction(1)}
    for start, end in zip(ends, ends[1:]):
        further = {}
        for below, chance in ways.items():
            for more in range(n - below + 1):
                here = below + more
                kept = (all(here <= i for i in range(n) if lows[i] == end)
                        and all(here >= i + 1 for i in range(n) if highs[i] == end))
                if kept:
                    part = chance * comb(n - below, more) * (end - start) ** more
                    further[here] = further.get(here, 0) + part
        ways = further
    # Bounds at 0: a high of 0 leaves nothing, a low of 0 asks for nothing.
    if any(high == 0 for high in highs):
        return Fraction(0)
    return ways.get(n, Fraction(0))


def nested(depth, inner=0):
    value = inner
    for _ in range(depth):
        value = (value,)
    return value


class Odd:
    """An object that is equal to all and to none, has no truth and no length."""

    def __eq__(self, other):
        raise RuntimeError("compared")

    def __bool__(self):
        raise RuntimeError("asked for its truth")

    def __len__(self):
        raise RuntimeError("asked for its length")

    __hash__ = None


class Masked:
    """An object that says it is of another class."""

    def __init__(self, mask):
        self.mask = mask

    @property
    def __class__(self):
        return self.mask


def odd_things():
    """Things of any kind that are neither numbers, fractions, sayings nor bands."""
    return [
        None, True, False, "", "1", "(0, 1)", b"", b"ab", [], [0, 1], [(0, 1), (1, 1)], (), {}, {0: 1}, set(), {0, 1},
        frozenset(), object(), int, len, range(2), range(0, 2), Fraction(1, 2), 1j, ..., NotImplemented, -1, 10 ** 399,
        iter(()), (x for x in ()), Exception("x"), Masked(int), Masked(tuple), (Masked(int), Masked(int)),
        Odd(), (Odd(),), (Odd(), Odd()), ((Odd(), Odd()), (Odd(), Odd())), (((Odd(), Odd()),),),
        (None,), (None, None), ((),), ((), ()), ([], []), ((0,), (1,)), ((0, 1),), (0, 1, 1),
        nested(10), nested(9, ()), nested(9, {}), nested(8, (0, 1)), [[[[[]]]]], {1: {2: {3: ()}}},
    ]


def not_fractions():
    """Values that are no fraction, though many are near it."""
    return odd_things() + [
        0, 1, -1, (0, 2), (2, 2), (2, 4), (-2, 4), (6, 3), (1, 0), (0, 0), (1, -2), (-1, -2), (0, -1),
        (1,), (1, 2, 3), [1, 2], (True, 1), (1, True), (False, 1), (True, True), ("1", 2), (1, None),
        ((1, 2), 1), ((1, 2), (1, 2)), (1, [2]), Fraction(1, 2), (Fraction(1), 2),
        (10 ** 399, 10 ** 399), (2 * 10 ** 398, 10 ** 399 - 2), (1, -10 ** 399),
    ]


def not_counts():
    """Values that are no whole number of draws, for whichever function."""
    return odd_things() + deepest_things() + [0, -1, one, "1", Fraction(1), 10 ** 399, -10 ** 399]


def not_numbers_from_nought():
    """Values that are no whole number from 0 on that is small."""
    return [thing for thing in not_counts() if type(thing) is not int or thing != 0]


def not_shares():
    return not_fractions() + [(-1, 2), (3, 2), (2, 1), (-1, 1), (10 ** 399 + 1, 10 ** 399), (-1, 10 ** 399)]


def not_inner_shares():
    return not_shares() + [nil, one]


def not_pairs_of_tuples():
    row = (nil, one)
    near = [
        (), (row,), (row, row, row), [row, row], (list(row), row), (row, list(row)), (row, None), (None, row),
        {0: row, 1: row}, (row, "ab"), (row, {0: nil, 1: one}), (row, row, None),
    ]
    for thing in odd_things() + deepest_things():
        if not (type(thing) is tuple and [type(part) for part in thing] == [tuple, tuple]):
            near.append(thing)
    return near


def not_wishes():
    return not_shares() + deepest_things() + [nil]


def not_stretches(n):
    """Values that are no stretch of n draws."""
    wrong = odd_things() + [
        (0, 0), (1, 0), (1, 1), (n, n), (n + 1, n + 1), (n + 1, n), (n + 1, n + 2), (0, n + 2), (n, n + 2), (-1, 1),
        (-1, 0), (-2, -1), (-n, n), (0, -1), (0, 10 ** 399), (-10 ** 399, 1), (0, 1, 1), (0,), [0, 1], (True, n + 1),
        (False, 1), (0, True), (0, None), (None, 1), ("0", 1), (0, "1"), ((0, 1), 1), (0, (1, 1)), (0, Fraction(1)),
        ((0, 1), (1, 1)), (0, 1, n + 1), {0: 0, 1: 1}, "01", 1, (n + 1, 0), (0, [1]),
    ]
    return wrong + deepest_things()


def not_words():
    """Values that are no word."""
    wrong = [thing for thing in odd_things() if repr(thing) != "(0, 1, 1)"]
    return wrong + deepest_things() + [
        (0,), (1,), (0, 0), (1, 1), (0,) * 10, (1,) * 10, (0,) * 5 + (1,) * 6, (0, 1) * 6, (0,) * 10 + (1,),
        (0, 1) * 150, [0, 1], "01", b"01", (0, True), (False, 1), (False, True), (0, 1, 2), (0, 1, -1), (0, 1, None),
        (0, 1, nil), ((0,), (1,)), ((0, 1),), (0, (1,)), (0, "1"), ("0", "1"), {0: 0, 1: 1}, (0, 1, [0]), 0, 1,
        (0, Fraction(1)), (2, 1), (0, 2), (-1, 0), (0, 10 ** 399), (0, 1, 10 ** 399), {0, 1}, range(2),
    ]


def deepest_things():
    """Values nested just as deep as is let."""
    return [nested(14), nested(13, ()), nested(12, (0, 1)), nested(11, ((0, 1), (1, 1))), nested(13, []),
            [nested(13)], (nested(13), nested(13)), ((nested(12), nested(12)), (nested(12), nested(12)))]
