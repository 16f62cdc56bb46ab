"""In how many ways further draws come to the blocks of those before: all ways are as likely."""

from math import comb

from anydraws.ratios import reduced


def spread_ways(draws, blocks):
    """In how many ways so many draws, told by nothing but their blocks, come to so many blocks."""
    if blocks == 0:
        return 1 if draws == 0 else 0
    return comb(draws + blocks - 1, draws)


def within_ways(count, further, blocks, number):
    """In how many ways just this number of further draws comes to so many of the count + 1 blocks."""
    return spread_ways(number, blocks) * spread_ways(further - number, count + 1 - blocks)


def chance_of_ways(ways, count, further):
    """The chance of so many of all the ways."""
    return reduced(ways, comb(count + further, further))
