"""In how many ways throws come to places, each place having a whole weight.

A throw comes to a place in as many ways as the place's weight tells. So a chance is so many ways
over all of them: the sum of the weights to the power of how many throws there are.
"""

from math import comb

from anydraws.ratios import powers


def hit_ways(count, share):
    """For k from 0 to count the ways in which just k of so many throws come to the share."""
    hits = powers(share[0], count)
    misses = powers(share[1] - share[0], count)
    return [comb(count, k) * hits[k] * misses[count - k] for k in range(count + 1)]


def no_throws(count):
    """The ways ahead of the first place, as further_ways takes them."""
    return [1] + [0] * count


def further_ways(ways, weight, most):
    """The ways with one more place of this weight, to which at most so many throws come.

    ways[s] are those in which s of the throws have come to the places so far, the others being
    left open; there are as many throws as its last index.
    """
    count = len(ways) - 1
    worths = powers(weight, count)
    further = [0] * (count + 1)
    for s, here in enumerate(ways):
        for k in range(min(most, count - s) + 1):
            further[s + k] += here * comb(count - s, k) * worths[k]
    return further


def ended_ways(ways, weight):
    """How many ways there are if all throws that are left come to one last place."""
    worths = powers(weight, len(ways) - 1)
    return sum(here * worth for here, worth in zip(ways, worths[::-1]))
