"""Claims that are so, with papers, and what a claim and its paper are held against in tests."""

from fractions import Fraction

from anydraws.bands import band_sureness, even_band
from anydraws.centres import centre_sureness
from anydraws.errors import DrawError
from anydraws.further import further_groups
from anydraws.held import groups_sureness
from anydraws.places import places_sureness
from anydraws.sayings import is_saying, saying_chance
from anydraws.shifts import shift_sureness
from anydraws.words import is_closed_up, set_sureness, word_chance
from tests.drawn import is_told_fraction, nil, number, one, own_words, row_sum

less, half, third, two = (-1, 1), (1, 2), (1, 3), (2, 1)
middle, falling, never = ((less, one, less),), ((one, less, nil), (nil, one, less)), ((one, less), (less, one))
GROUPS = ((0, 1, (1, 4)), (1, 2, (1, 4)))
PLACES = ((third, 1, 2), ((2, 3), 1, 2))
WIDE = even_band(2, half)
HIGH, LOW = (0, 1, 1), (1, 0, 1)

# Each kind of claim, once at least, with a paper for it.
ACCEPTED = [
    (("possible", middle), ((1, 5), (3, 5), (1, 5))),
    (("possible", falling), ((1, 2), (1, 3), (1, 6))),
    (("impossible", never), (one, one)),
    (("impossible", (falling[0], (nil, nil, less), (less, one, nil))), (one, half, one)),
    (("at least", middle, (1, 4)), ()),
    (("at least", falling, nil), ()),
    (("less", middle, third), ()),
    (("sure band", WIDE, half), ()),
    (("less sure", WIDE, (2, 3)), ()),
    (("places", 2, PLACES, (2, 9)), ()),
    (("places less", 2, PLACES, third), ()),
    (("held", 2, GROUPS, (1, 4)), ()),
    (("held less", 2, GROUPS, third), ()),
    (("further", 2, 2, ((0, 1, 1), (2, 3, 1)), (1, 6)), ()),
    (("further less", 2, 2, ((0, 1, 1), (2, 3, 1)), (1, 5)), ()),
    (("closed up", (HIGH, LOW)), ()),
    (("not closed up", (LOW,)), (LOW, HIGH)),
    (("best", (HIGH,), two), half),
    (("not best", (LOW,), two), (LOW, HIGH)),
    (("shift", 2, 2, 1, 4, (2, 3)), ()),
    (("centre", 3, 1, 6, (3, 4)), ()),
]
KINDS = [
    "possible", "impossible", "at least", "less", "sure band", "less sure", "places", "places less", "held",
    "held less", "further", "further less", "closed up", "not closed up", "best", "not best", "shift", "centre",
]
OPPOSITES = {
    "at least": "less", "sure band": "less sure", "places": "places less", "held": "held less",
    "further": "further less",
}
FUNCTIONS = {
    "at least": saying_chance, "sure band": band_sureness, "places": places_sureness, "held": groups_sureness,
    "further": further_groups,
}
FUNCTIONS.update({OPPOSITES[kind]: FUNCTIONS[kind] for kind in OPPOSITES})


def is_share_of(kind, value):
    """Whether it is such a share or wish as a claim of this kind may have."""
    if not is_told_fraction(value) or not 0 <= number(value) <= 1:
        return False
    return number(value) > 0 or kind.split()[0] not in ("places", "held", "further")


def are_fractions(value, length):
    return type(value) is tuple and len(value) == length and all(is_told_fraction(part) for part in value)


def own_accepts(claim, paper):
    """What the checker has to tell of claims that hold nothing but strings, whole numbers and tuples."""
    try:
        return told_so(claim, paper)
    except DrawError:
        return False


def told_so(claim, paper):
    if type(claim) is not tuple or claim == () or type(claim[0]) is not str:
        return False
    kind, parts = claim[0], claim[1:]
    if kind in FUNCTIONS:
        lengths = {"at": 2, "less": 2, "sure": 2, "places": 3, "held": 3, "further": 4}
        if len(parts) != lengths[kind.split()[0]] or not is_share_of(kind, parts[-1]) or paper != ():
            return False
        reached = number(FUNCTIONS[kind](*parts[:-1])) >= number(parts[-1])
        return reached if kind in OPPOSITES else not reached
    if kind in ("shift", "centre"):
        function, length = (shift_sureness, 5) if kind == "shift" else (centre_sureness, 4)
        if len(parts) != length or not is_told_fraction(parts[-1]) or paper != ():
            return False
        return function(*parts[:-1]) == parts[-1]
    if kind in ("possible", "impossible"):
        return len(parts) == 1 and is_saying(parts[0]) and borne_out(kind, parts[0], paper)
    if kind in ("closed up", "not closed up"):
        return len(parts) == 1 and closing_told(kind, parts[0], paper)
    if kind in ("best", "not best"):
        return len(parts) == 2 and bestness_told(kind, *parts, paper)
    return False


def borne_out(kind, saying, paper):
    if kind == "possible":
        if not are_fractions(paper, len(saying[0])) or sum(number(block) for block in paper) != 1:
            return False
        return min(number(block) for block in paper) > 0 and all(row_sum(row, paper) > 0 for row in saying)
    if not are_fractions(paper, len(saying)) or min(number(weight) for weight in paper) < 0:
        return False
    return any(n != 0 for n, _ in paper) and all(row_sum(column, paper) <= 0 for column in zip(*saying))


def is_pair_for(words, paper):
    """Whether it is a pair of a word within and another one, of as many letters, that is not."""
    if type(paper) is not tuple or len(paper) != 2 or paper[0] not in words or paper[1] in words:
        return False
    return paper[1] in own_words(words[0].count(0), words[0].count(1))


def closing_told(kind, words, paper):
    if kind == "closed up":
        return is_closed_up(words) and paper == ()
    set_sureness(words)
    if not is_pair_for(words, paper):
        return False
    apart = [k for k in range(len(words[0])) if paper[0][k] != paper[1][k]]
    turned = len(apart) == 2 and apart[1] == apart[0] + 1
    return turned and (paper[0][apart[0]], paper[0][apart[1]]) == (1, 0)


def bestness_told(kind, words, power, paper):
    set_sureness(words)
    chances = {word: number(word_chance(word, power)) for word in words}
    if kind == "not best":
        return is_pair_for(words, paper) and number(word_chance(paper[1], power)) > chances[paper[0]]
    others = [word for word in own_words(words[0].count(0), words[0].count(1)) if word not in chances]
    if not is_told_fraction(paper):
        return False
    most = max((number(word_chance(word, power)) for word in others), default=Fraction(0))
    return min(chances.values()) >= number(paper) and (not others or most <= number(paper))


def places_in(value, at=()):
    """The ways to each thing within nested tuples, the whole one first."""
    yield at
    if type(value) is tuple:
        for k, part in enumerate(value):
            yield from places_in(part, at + (k,))


def part_at(value, at):
    for k in at:
        value = value[k]
    return value


def with_part(value, at, part):
    """The value with another part at this place."""
    if at == ():
        return part
    k = at[0]
    return value[:k] + (with_part(value[k], at[1:], part),) + value[k + 1:]
