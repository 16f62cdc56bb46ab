"""Boxes: bounds for each of the draws in order, their chances, tables and sayings."""

from math import factorial

from anydraws.checks import first_without_shares, is_pair_of_rows
from anydraws.errors import InvalidBox
from anydraws.evens import kept_chance
from anydraws.ratios import greater, is_below, lesser, minus, power, reduced

_MOST_DRAWS = 8
_MOST_DRAWS_OF_SAYINGS = 4
_NIL = (0, 1)
_ONE = (1, 1)


def is_box(value):
    try:
        check_box(value)
    except InvalidBox:
        return False
    return True


def check_box(box):
    check_box_within(box, 1, _MOST_DRAWS)


def check_box_within(box, least, most):
    """Checks a box of how many draws from least up to most."""
    if not is_pair_of_rows(box, least, most):
        raise InvalidBox(None)
    wrong = first_without_shares(box)
    if wrong is not None:
        raise InvalidBox(wrong)


def plain_box(box):
    check_box(box)
    lows, highs = box
    return made_plain(lows, highs)


def made_plain(lows, highs):
    return (greatest_so_far(lows), least_from_here(highs))


def greatest_so_far(lows):
    plain = [lows[0]]
    for low in lows[1:]:
        plain.append(greater(plain[-1], low))
    return tuple(plain)


def least_from_here(highs):
    plain = [highs[-1]]
    for high in highs[-2::-1]:
        plain.append(lesser(plain[-1], high))
    return tuple(plain[::-1])


def box_chance(box):
    check_box(box)
    lows, highs = box
    return kept_chance(lows, highs)


def box_table(box):
    lows, highs = plain_box(box)
    if not all(is_below(low, high) for low, high in zip(lows, highs)):
        return None
    return tuple([
        tuple([table_number(high, low, j - i + 1) for j, low in enumerate(lows)])
        for i, high in enumerate(highs)
    ])


def table_number(high, low, exponent):
    """What stands in the table where so high a power of high - low is told."""
    if exponent < 0:
        return _NIL
    n, m = minus(high, low)
    return reduced(power(max(0, n), exponent), factorial(exponent) * power(m, exponent))


def mirrored_box(box):
    check_box(box)
    lows, highs = box
    return (mirrored_shares(highs), mirrored_shares(lows))


def mirrored_shares(shares):
    return tuple([minus(_ONE, share) for share in shares[::-1]])


def met_box(box, other):
    check_box(box)
    check_box_within(other, len(box[0]), len(box[0]))
    lows = [greater(here, there) for here, there in zip(box[0], other[0])]
    highs = [lesser(here, there) for here, there in zip(box[1], other[1])]
    return made_plain(lows, highs)


def saying_of_box(box):
    check_box(box)
    rows = rows_of_box(box)
    if not rows or len(box[0]) > _MOST_DRAWS_OF_SAYINGS:
        return None
    return tuple(rows)


def rows_of_box(box):
    """The rows of all bounds but lows of 0 and highs of 1, which ask for nothing."""
    rows = []
    for k, (low, high) in enumerate(zip(box[0], box[1])):
        below, others = k + 1, len(box[0]) - k
        if low != _NIL:
            rows.append((minus(_ONE, low),) * below + (minus(_NIL, low),) * others)
        if high != _ONE:
            rows.append((minus(high, _ONE),) * below + (high,) * others)
    return rows
