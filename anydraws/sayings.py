"""Sayings by straight inequalities about the blocks of draws, and their chances."""

from anydraws.checks import is_fraction, is_tuple
from anydraws.errors import InvalidSaying
from anydraws.games import settled_game
from anydraws.ratios import common_divisor, reduced, scaled
from anydraws.volumes import share_of_blocks

_MOST_ROWS = 8
_MOST_NUMBERS = 5


def is_saying(value):
    try:
        check_saying(value)
    except InvalidSaying:
        return False
    return True


def check_saying(saying):
    if not is_tuple(saying) or len(saying) == 0:
        raise InvalidSaying(None)
    for k, row in enumerate(saying):
        if k == _MOST_ROWS or not is_row(row) or len(row) != len(saying[0]):
            raise InvalidSaying(k)


def is_row(value):
    if not is_tuple(value) or not 2 <= len(value) <= _MOST_NUMBERS:
        return False
    return all(is_fraction(number) for number in value) and any(number[0] != 0 for number in value)


def whole_rows(saying):
    """The rows, each times the least number above 0 that makes it whole: they say the same."""
    return [scaled(row, common_divisor(row)) for row in saying]


def saying_chance(saying):
    check_saying(saying)
    return share_of_blocks(whole_rows(saying))


def is_possible(saying):
    check_saying(saying)
    blocks, _ = settled_game(whole_rows(saying))
    return blocks is not None


def inner_blocks(saying):
    check_saying(saying)
    blocks, _ = settled_game(whole_rows(saying))
    if blocks is None:
        return None
    whole = sum(blocks)
    return tuple([reduced(block, whole) for block in blocks])


def barring_weights(saying):
    check_saying(saying)
    _, weights = settled_game(whole_rows(saying))
    if weights is None:
        return None
    # A weight for the row made whole stands for so many times as much of the row as it was passed.
    return tuple([(weight * common_divisor(row), 1) for weight, row in zip(weights, saying)])


def greatest_closed(saying):
    check_saying(saying)
    return 1 if all(row[-1] + all_falls(row) >= 0 for row in whole_rows(saying)) else 0


def least_open(saying):
    check_saying(saying)
    return 1 if all(row[-1] - all_falls(row[::-1]) >= 0 for row in whole_rows(saying)) else 0


def all_falls(numbers):
    """The sum of all falls from a number to the next one; read from the end, of all rises."""
    return sum(max(0, number - after) for number, after in zip(numbers, numbers[1:]))


def mirrored_saying(saying):
    check_saying(saying)
    return tuple([row[::-1] for row in saying])
