"""What is a whole number, a fraction, a share; and the errors for arguments that are none."""

from math import gcd

from anydraws.errors import InvalidNumber, InvalidShare, InvalidStretch, InvalidWish


def is_tuple(value):
    # Asking for the exact class runs nothing of the value's own, whatever it is.
    return type(value) is tuple


def is_whole(value):
    # True and False are of a class below int, so they are none.
    return type(value) is int


def is_fraction(value):
    if not is_tuple(value) or len(value) != 2:
        return False
    n, m = value
    return is_whole(n) and is_whole(m) and m > 0 and gcd(n, m) == 1


def is_share(value):
    return is_fraction(value) and 0 <= value[0] <= value[1]


def is_inner_share(value):
    """Whether it is a fraction above 0 and below 1."""
    return is_fraction(value) and 0 < value[0] < value[1]


def is_stretch(value, count):
    if not is_tuple(value) or len(value) != 2:
        return False
    i, j = value
    return is_whole(i) and is_whole(j) and 0 <= i < j <= count + 1


def is_pair_of_rows(value, least, most):
    """Whether it is a pair of two tuples of as many elements, from least up to most."""
    if not is_tuple(value) or len(value) != 2:
        return False
    lows, highs = value
    if not is_tuple(lows) or not is_tuple(highs):
        return False
    return len(lows) == len(highs) and least <= len(lows) <= most


def first_without_shares(rows):
    """The index of the first of these tuples that has an element that is no share, or None."""
    for k, row in enumerate(rows):
        if not all(is_share(number) for number in row):
            return k
    return None


def check_number(value, most):
    check_number_within(value, 1, most)


def check_number_within(value, least, most):
    if not is_whole(value) or not least <= value <= most:
        raise InvalidNumber(value)


def check_share(value):
    if not is_share(value):
        raise InvalidShare(value)


def check_share_above_nought(value):
    if not is_share(value) or value[0] == 0:
        raise InvalidShare(value)


def check_inner_share(value):
    if not is_inner_share(value):
        raise InvalidShare(value)


def check_wish(value):
    if not is_share(value) or value[0] == 0:
        raise InvalidWish(value)


def check_stretch(value, count):
    if not is_stretch(value, count):
        raise InvalidStretch(value)
