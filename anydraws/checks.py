"""What is a whole number, a fraction, a share; and the errors for arguments that are none."""

from math import gcd

from anydraws.errors import InvalidNumber, InvalidShare


def is_tuple(value):
    # Asking for the exact class runs nothing of the value's own, whatever it is.
    return type(value) is tuple


def is_whole(value):
    # True and False are of a class below int, so they are none.
    return type(value) is int


def is_fraction(value):
    if not is_tuple(value) or len(value) != 2:
        return False
    n, m = value
    return is_whole(n) and is_whole(m) and m > 0 and gcd(n, m) == 1


def is_share(value):
    return is_fraction(value) and 0 <= value[0] <= value[1]


def check_number(value, most):
    if not is_whole(value) or not 1 <= value <= most:
        raise InvalidNumber(value)


def check_share(value):
    if not is_share(value):
        raise InvalidShare(value)


def check_share_above_nought(value):
    if not is_share(value) or value[0] == 0:
        raise InvalidShare(value)
