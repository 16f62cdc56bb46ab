"""Further draws of the same distribution: how many lie within stretches, and how the last ranks."""

from anydraws.checks import (
    check_number, check_number_within, check_stretch, check_wish, is_fraction, is_stretch, is_tuple, is_whole,
)
from anydraws.errors import InvalidGroups, InvalidScores
from anydraws.ratios import common_divisor, is_below, reduced, scaled
from anydraws.spreads import chance_of_ways, spread_ways, within_ways

_MOST_DRAWS = 40
_MOST_GROUPS = 3
_MOST_SCORES = 12


def check_counts(count, further):
    check_number(count, _MOST_DRAWS)
    check_number_within(further, 0, _MOST_DRAWS)


def check_groups(groups, count, further):
    if not is_tuple(groups) or not 1 <= len(groups) <= _MOST_GROUPS:
        raise InvalidGroups(None)
    end, total = 0, 0
    for k, group in enumerate(groups):
        if not is_group(group, count) or group[0] < end:
            raise InvalidGroups(k)
        end, total = group[1], total + group[2]
        if total > further:
            raise InvalidGroups(k)


def is_group(value, count):
    if not is_tuple(value) or len(value) != 3:
        return False
    return is_stretch(value[:2], count) and is_whole(value[2]) and value[2] >= 0


def check_scores(scores):
    if not is_tuple(scores) or not 2 <= len(scores) <= _MOST_SCORES:
        raise InvalidScores(None)
    for k, score in enumerate(scores):
        if not is_fraction(score):
            raise InvalidScores(k)


def further_chance(count, further, stretch, number):
    check_counts(count, further)
    check_stretch(stretch, count)
    check_number_within(number, 0, further)
    i, j = stretch
    return chance_of_ways(within_ways(count, further, j - i, number), count, further)


def further_sureness(count, further, stretch, number):
    check_counts(count, further)
    check_stretch(stretch, count)
    check_number_within(number, 0, further)
    i, j = stretch
    ways = sum([within_ways(count, further, j - i, more) for more in range(number, further + 1)])
    return chance_of_ways(ways, count, further)


def further_groups(count, further, groups):
    check_counts(count, further)
    check_groups(groups, count, further)
    ways = [1] + [0] * further
    others = count + 1
    for i, j, number in groups:
        ways = ways_with_group(ways, j - i, number)
        others = others - (j - i)
    kept = sum([here * spread_ways(further - s, others) for s, here in enumerate(ways)])
    return chance_of_ways(kept, count, further)


def ways_with_group(ways, blocks, number):
    """The ways with one more group of so many blocks, to which at least this number of draws comes.

    ways[s] are those in which s draws have come to the groups so far.
    """
    most = len(ways) - 1
    joined = [0] * (most + 1)
    for s, here in enumerate(ways):
        for more in range(number, most - s + 1):
            joined[s + more] += here * spread_ways(more, blocks)
    return joined


def rank_chance(scores, number):
    check_scores(scores)
    check_number(number, len(scores) - 1)
    worths = scaled(scores, common_divisor(scores))
    # Each score has the lot to be the last as often; the order of the others changes nothing.
    ranked = [worth for worth in worths if how_many_below(worths, worth) < number]
    return reduced(len(ranked), len(worths))


def how_many_below(worths, worth):
    return len([other for other in worths if other < worth])


def rank_needed(count, wish):
    check_number(count, _MOST_DRAWS)
    check_wish(wish)
    for k in range(1, count + 1):
        if not is_below((k, count + 1), wish):
            return k
    return None
