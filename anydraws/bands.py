"""Bands around the whole distribution, and how surely they hold it."""

from anydraws.checks import (
    check_number, check_share, check_share_above_nought, first_without_shares, is_pair_of_rows,
)
from anydraws.errors import InvalidBand
from anydraws.evens import kept_chance
from anydraws.ratios import greater, is_below, lesser, minus, plus, reduced, times

_MOST_DRAWS = 8
_MOST_MANY = 1000000
_NIL = (0, 1)
_ONE = (1, 1)


def is_band(value):
    try:
        check_band(value)
    except InvalidBand:
        return False
    return True


def check_band(band):
    if not is_pair_of_rows(band, 2, _MOST_DRAWS + 1):
        raise InvalidBand(None)
    wrong = first_without_shares(band)
    if wrong is not None:
        raise InvalidBand(wrong)


def band_box(band):
    check_band(band)
    return box_of(band)


def box_of(band):
    low, high = band
    if low[0] != _NIL or high[-1] != _ONE:
        return None
    return (low[1:], high[:-1])


def band_sureness(band):
    check_band(band)
    return sureness_of(band)


def sureness_of(band):
    box = box_of(band)
    if box is None:
        return _NIL
    lows, highs = box
    return kept_chance(lows, highs)


def even_band(count, width):
    check_number(count, _MOST_DRAWS)
    check_share(width)
    return (even_low(count, width), even_high(count, width))


def even_low(count, width):
    return tuple([greater(_NIL, minus(reduced(k, count), width)) for k in range(count + 1)])


def even_high(count, width):
    return tuple([lesser(_ONE, plus(reduced(k, count), width)) for k in range(count + 1)])


def even_sureness(count, width):
    return sureness_of(even_band(count, width))


def one_sided_sureness(count, width):
    check_number(count, _MOST_DRAWS)
    check_share(width)
    return sureness_of(((_NIL,) * (count + 1), even_high(count, width)))


def even_pieces(count):
    check_number(count, _MOST_DRAWS)
    pieces = []
    for k in range(2 * count):
        start = reduced(k, 2 * count)
        end = reduced(k + 1, 2 * count)
        numbers = even_polynomial(count, k)
        if pieces and pieces[-1][2] == numbers:
            start = pieces.pop()[0]
        pieces.append((start, end, numbers))
    return tuple(pieces)


def even_polynomial(count, k):
    """The numbers of the polynomial from the k-th multiple of 1 / (2 n) to the next one.

    It has at most the degree n, as Steck's determinant has, so n + 1 widths settle it.
    """
    many = 2 * count * count
    widths = [reduced(k * count + step, many) for step in range(count + 1)]
    worths = [even_sureness(count, width) for width in widths]
    return polynomial_through(widths, worths)


def polynomial_through(places, worths):
    """The numbers of the least polynomial with these worths at these places, lower powers first."""
    slopes = divided_differences(places, worths)
    numbers = []
    for place, slope in zip(places[::-1], slopes[::-1]):
        numbers = times_less_place(numbers, place)
        numbers[0] = plus(numbers[0], slope)
    while numbers and numbers[-1] == _NIL:
        numbers.pop()
    return tuple(numbers)


def divided_differences(places, worths):
    slopes = list(worths)
    for step in range(1, len(places)):
        for k in range(len(places) - 1, step - 1, -1):
            across = minus(places[k], places[k - step])
            rise = minus(slopes[k], slopes[k - 1])
            slopes[k] = times(rise, reduced(across[1], across[0]))
    return slopes


def times_less_place(numbers, place):
    """The polynomial times (w - place)."""
    raised = [_NIL] + numbers
    lowered = [times(number, place) for number in numbers] + [_NIL]
    return [minus(up, down) for up, down in zip(raised, lowered)]


def even_width_near(count, share, many):
    check_number(count, _MOST_DRAWS)
    check_share_above_nought(share)
    check_number(many, _MOST_MANY)
    # As the sureness grows with the width, a width is at most the least one that
    # reaches the share just where its own sureness is at most the share.
    least, beyond = 0, many + 1
    while beyond - least > 1:
        middle = (least + beyond) // 2
        if is_below(share, even_sureness(count, reduced(middle, many))):
            beyond = middle
        else:
            least = middle
    return (least, even_sureness(count, reduced(least, many)) == share)
