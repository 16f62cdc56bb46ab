"""Distributions with a few atoms and nothing else: the exact chances of readings and of bands."""

from math import comb

from anydraws.bands import check_band
from anydraws.checks import check_inner_share, is_fraction, is_tuple, is_whole
from anydraws.errors import InvalidIndex, InvalidShares, TooMany
from anydraws.ratios import common_divisor, is_below, minus, power, reduced, scaled, times
from anydraws.sayings import check_saying, whole_rows
from anydraws.throws import further_ways, no_throws

_MOST_ATOMS = 5


def are_shares(value):
    try:
        check_shares(value)
    except InvalidShares:
        return False
    return True


def check_shares(shares):
    if not is_tuple(shares) or not 1 <= len(shares) <= _MOST_ATOMS:
        raise InvalidShares(None)
    for k, share in enumerate(shares):
        if not is_fraction(share) or share[0] <= 0:
            raise InvalidShares(k)
    whole = common_divisor(shares)
    if sum(scaled(shares, whole)) != whole:
        raise InvalidShares(len(shares) - 1)


def closed_chance(saying, shares):
    check_saying(saying)
    check_shares(shares)
    return reading_chance(saying, shares, True)


def open_chance(saying, shares):
    check_saying(saying)
    check_shares(shares)
    return reading_chance(saying, shares, False)


def reading_chance(saying, shares, is_closed):
    whole = common_divisor(shares)
    weights = scaled(shares, whole)
    rows = whole_rows(saying)
    draws = len(rows[0]) - 1
    kept = 0
    for atoms, ways in draws_on_atoms(draws, weights):
        below = [sum(weights[:atom]) for atom in atoms]
        up_to = [sum(weights[:atom + 1]) for atom in atoms]
        at_falls, at_rises = (up_to, below) if is_closed else (below, up_to)
        if all(read_sum(row, whole, at_falls, at_rises) >= 0 for row in rows):
            kept += ways
    return reduced(kept, power(whole, draws))


def draws_on_atoms(draws, weights):
    """The pairs (ATOMS, WAYS): the atoms' indexes of the draws in order, and in how many ways so."""
    found = [((), 1)]
    for k, weight in enumerate(weights):
        found = [
            (atoms + (k,) * more, ways * comb(draws - len(atoms), more) * power(weight, more))
            for atoms, ways in found
            for more in range(draws - len(atoms) + 1)
        ]
    return [(atoms, ways) for atoms, ways in found if len(atoms) == draws]


def read_sum(row, whole, at_falls, at_rises):
    """A row's sum, times what all atoms weigh together."""
    total = row[-1] * whole
    for i in range(len(at_falls)):
        fall = row[i] - row[i + 1]
        total += fall * (at_falls[i] if fall > 0 else at_rises[i])
    return total


def band_chance(band, shares):
    check_band(band)
    check_shares(shares)
    whole = common_divisor(shares)
    draws = len(band[0]) - 1
    # What the band says changes only at an atom; so it is asked below all atoms and from each on.
    reached = 0
    ways = ways_within(no_throws(draws), band, (0, 1))
    for weight in scaled(shares, whole):
        reached += weight
        ways = ways_within(further_ways(ways, weight, draws), band, (reached, whole))
    return reduced(ways[draws], power(whole, draws))


def ways_within(ways, band, reached):
    """The ways, none for those counts of draws with which the band leaves out what is reached."""
    lows, highs = band
    return [
        0 if is_below(reached, low) or is_below(high, reached) else here
        for here, low, high in zip(ways, lows, highs)
    ]


def parted(shares, place, part):
    check_shares(shares)
    if not is_whole(place) or not 0 <= place < len(shares):
        raise InvalidIndex(place)
    check_inner_share(part)
    if len(shares) == _MOST_ATOMS:
        raise TooMany()
    first = times(shares[place], part)
    return shares[:place] + (first, minus(shares[place], first)) + shares[place + 1:]
