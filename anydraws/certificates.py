"""Claims with the papers that bear them out: of two that exclude one another the one that is so."""

from anydraws.bands import check_band, sureness_of
from anydraws.centres import centre_sureness
from anydraws.checks import check_share, check_wish
from anydraws.further import further_groups
from anydraws.held import groups_sureness
from anydraws.places import places_sureness
from anydraws.ratios import is_below, lesser
from anydraws.sayings import barring_weights, check_saying, inner_blocks, saying_chance
from anydraws.shifts import shift_sureness
from anydraws.words import chance_of, check_power, check_words, likelier_pair, open_pair

_ONE = (1, 1)


def certify_possible(saying):
    blocks = inner_blocks(saying)
    if blocks is None:
        return (("impossible", saying), barring_weights(saying))
    return (("possible", saying), blocks)


def certify_least(saying, share):
    check_saying(saying)
    check_share(share)
    kind = "less" if is_below(saying_chance(saying), share) else "at least"
    return ((kind, saying, share), ())


def certify_band(band, share):
    check_band(band)
    check_share(share)
    kind = "less sure" if is_below(sureness_of(band), share) else "sure band"
    return ((kind, band, share), ())


def certify_places(count, claims, wish):
    sureness = places_sureness(count, claims)
    check_wish(wish)
    kind = "places less" if is_below(sureness, wish) else "places"
    return ((kind, count, claims, wish), ())


def certify_held(count, groups, wish):
    sureness = groups_sureness(count, groups)
    check_wish(wish)
    kind = "held less" if is_below(sureness, wish) else "held"
    return ((kind, count, groups, wish), ())


def certify_further(count, further, groups, wish):
    sureness = further_groups(count, further, groups)
    check_wish(wish)
    kind = "further less" if is_below(sureness, wish) else "further"
    return ((kind, count, further, groups, wish), ())


def certify_closed(words):
    check_words(words)
    pair = open_pair(words)
    if pair is None:
        return (("closed up", words), ())
    return (("not closed up", words), pair)


def certify_best(words, power):
    check_words(words)
    check_power(power)
    pair = likelier_pair(words, power)
    if pair is None:
        return (("best", words, power), least_chance(words, power))
    return (("not best", words, power), pair)


def least_chance(words, power):
    least = _ONE
    for word in words:
        least = lesser(least, chance_of(word, power))
    return least


def certify_shift(n, m, i, j):
    return (("shift", n, m, i, j, shift_sureness(n, m, i, j)), ())


def certify_centre(n, i, j):
    return (("centre", n, i, j, centre_sureness(n, i, j)), ())
