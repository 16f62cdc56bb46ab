"""Stretches of draws that hold so much share, one alone or several at once."""

from anydraws.checks import (
    check_inner_share, check_number, check_stretch, check_wish, is_share, is_stretch, is_tuple,
)
from anydraws.errors import InvalidGroups
from anydraws.ratios import common_divisor, is_below, plus, power, reduced, scaled
from anydraws.throws import ended_ways, further_ways, hit_ways, no_throws

_MOST_DRAWS = 40
_MOST_GROUPS = 3
_NIL = (0, 1)
_ONE = (1, 1)


def check_groups(groups, count):
    if not is_tuple(groups) or not 1 <= len(groups) <= _MOST_GROUPS:
        raise InvalidGroups(None)
    end, total = 0, _NIL
    for k, group in enumerate(groups):
        if not is_group(group, count) or group[0] < end:
            raise InvalidGroups(k)
        end, total = group[1], plus(total, group[2])
        if is_below(_ONE, total):
            raise InvalidGroups(k)


def is_group(value, count):
    if not is_tuple(value) or len(value) != 3:
        return False
    return is_stretch(value[:2], count) and is_share(value[2])


def held_sureness(count, share, stretch):
    check_number(count, _MOST_DRAWS)
    check_inner_share(share)
    check_stretch(stretch, count)
    i, j = stretch
    return reduced(sum(hit_ways(count, share)[:j - i]), power(share[1], count))


def best_held(count, share, wish):
    check_number(count, _MOST_DRAWS)
    check_inner_share(share)
    check_wish(wish)
    ways = hit_ways(count, share)
    whole = power(share[1], count)
    for blocks in range(1, count + 1):
        if not is_below((sum(ways[:blocks]), whole), wish):
            return blocks
    # All blocks together hold everything.
    return count + 1


def fewest_for_held(share, wish):
    check_inner_share(share)
    check_wish(wish)
    for count in range(2, _MOST_DRAWS + 1):
        inner = sum(hit_ways(count, share)[:count - 1])
        if not is_below((inner, power(share[1], count)), wish):
            return count
    return None


def groups_sureness(count, groups):
    check_number(count, _MOST_DRAWS)
    check_groups(groups, count)
    shares = [share for _, _, share in groups]
    whole = common_divisor(shares)
    weights = scaled(shares, whole)
    ways = no_throws(count)
    for (i, j, _), weight in zip(groups, weights):
        ways = further_ways(ways, weight, j - i - 1)
    return reduced(ended_ways(ways, whole - sum(weights)), power(whole, count))
