"""Stretches of draws that hold the places of shares."""

from anydraws.checks import (
    check_inner_share, check_number, check_stretch, check_wish, is_inner_share, is_stretch, is_tuple,
)
from anydraws.errors import InvalidClaims
from anydraws.evens import kept_chance
from anydraws.ratios import greater, is_below, lesser, power, reduced
from anydraws.throws import hit_ways

_MOST_DRAWS = 40
_MOST_DRAWS_OF_BOXES = 8
_MOST_CLAIMS = 4
_NIL = (0, 1)
_ONE = (1, 1)


def check_claims(claims, count):
    if not is_tuple(claims) or not 1 <= len(claims) <= _MOST_CLAIMS:
        raise InvalidClaims(None)
    for k, claim in enumerate(claims):
        if not is_claim(claim, count):
            raise InvalidClaims(k)


def is_claim(value, count):
    if not is_tuple(value) or len(value) != 3:
        return False
    return is_inner_share(value[0]) and is_stretch(value[1:], count)


def place_sureness(count, share, stretch):
    check_number(count, _MOST_DRAWS)
    check_inner_share(share)
    check_stretch(stretch, count)
    i, j = stretch
    return reduced(sum(hit_ways(count, share)[i:j]), power(share[1], count))


def best_place(count, share, wish):
    check_number(count, _MOST_DRAWS)
    check_inner_share(share)
    check_wish(wish)
    ways = hit_ways(count, share)
    whole = power(share[1], count)
    for length in range(1, count + 1):
        i, surest = surest_start(ways, length)
        if not is_below((surest, whole), wish):
            return (i, i + length)
    # From below to above all numbers it is always sure enough.
    return (0, count + 1)


def surest_start(ways, length):
    """The first i from which a stretch of this length has the most ways, and how many these are."""
    sums = [sum(ways[i:i + length]) for i in range(len(ways) - length + 1)]
    surest = max(sums)
    return sums.index(surest), surest


def fewest_for_place(share, wish):
    check_inner_share(share)
    check_wish(wish)
    for count in range(2, _MOST_DRAWS + 1):
        inner = sum(hit_ways(count, share)[1:count])
        if not is_below((inner, power(share[1], count)), wish):
            return count
    return None


def places_box(count, claims):
    check_number(count, _MOST_DRAWS_OF_BOXES)
    check_claims(claims, count)
    lows = [_NIL] * count
    highs = [_ONE] * count
    for share, i, j in claims:
        if i > 0:
            highs[i - 1] = lesser(highs[i - 1], share)
        if j <= count:
            lows[j - 1] = greater(lows[j - 1], share)
    return (tuple(lows), tuple(highs))


def places_sureness(count, claims):
    lows, highs = places_box(count, claims)
    return kept_chance(lows, highs)
