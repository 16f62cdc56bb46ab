"""Two lots of draws: how many they may be, and which values they may have."""

from anydraws.checks import check_number, is_fraction, is_tuple
from anydraws.errors import InvalidValues


def check_counts_of_lots(n, m, together):
    """Checks how many draws two lots have, each one at least, both not more than told together."""
    check_number(n, together - 1)
    check_number(m, together - n)


def check_lots(first, second, together):
    check_values(first, together - 1)
    check_values(second, together - len(first))


def check_values(values, most):
    if not is_tuple(values) or not 1 <= len(values) <= most:
        raise InvalidValues(None)
    for k, value in enumerate(values):
        if not is_fraction(value):
            raise InvalidValues(k)
