"""The share of all blocks that whole rows leave, by Lasserre's way from a body to its sides.

Here a side is a list a_1, .., a_d, b of whole numbers: it lets the points x with
a_1 x_1 + .. + a_d x_d <= b, and goes with a name, its index among all sides. The size of a body
is d! times its volume.
"""

from math import gcd

from anydraws.ratios import greater, is_below, lesser, minus, plus, reduced, times, unit_rows


def share_of_blocks(rows):
    """The chance that each of these rows of whole numbers has a sum of at least 0."""
    sides = [side_of(row) for row in rows + unit_rows(len(rows[0]))]
    return size(list(enumerate(sides)), (), {})


def side_of(row):
    """What a row lets, told by all blocks but the first one, which is 1 less the others."""
    first = row[0]
    return [first - number for number in row[1:]] + [first]


def size(sides, reached, known):
    """The sum, over the unlike sides, of b / |a_k| times the size of the side seen along x_k."""
    if len(sides[0][1]) == 2:
        return length([side for _, side in sides])
    total = (0, 1)
    unlike = unlike_sides(sides)
    for name, side in unlike:
        # A side through the point 0 adds nothing.
        if side[-1] != 0:
            k = first_place(side)
            face = face_size(unlike, name, side, reached, known)
            total = plus(total, times(face, reduced(side[-1], abs(side[k]))))
    return total


def face_size(sides, name, side, reached, known):
    """The size of a side, seen along its first x_k, kept in `known` by the sides reached so far.

    In whichever order they were reached, the same x_k are gone: the places at which the sums of
    multiples of these sides can begin.
    """
    place = tuple(sorted(reached + (name,)))
    if place not in known:
        seen = [(further, seen_along(side, other)) for further, other in sides if further != name]
        known[place] = size(seen, place, known)
    return known[place]


def first_place(side):
    k = 0
    while side[k] == 0:
        k += 1
    return k


def seen_along(side, other):
    """What the other side lets where this one is just reached, told without its first x_k."""
    k = first_place(side)
    steep = abs(side[k])
    back = other[k] if side[k] > 0 else -other[k]
    seen = [there * steep - here * back for here, there in zip(side, other)]
    return seen[:k] + seen[k + 1:]


def unlike_sides(sides):
    """Each side once, in its least numbers; none at all if one of them lets nothing.

    A side that is told twice would count twice in the sum over the sides.
    """
    found = {}
    for name, side in sides:
        if any(side[:-1]):
            found.setdefault(least_numbers(side), name)
        elif side[-1] < 0:
            return []
    return [(name, side) for side, name in found.items()]


def least_numbers(side):
    common = 0
    for number in side:
        common = gcd(common, number)
    return tuple([number // common for number in side])


def length(sides):
    """How long the stretch is that sides of one unknown leave.

    The blocks are bounded, so there is always a side against either end. The ends are compared
    before they are in their least terms, as only two of them are needed.
    """
    least = most = None
    for steep, bound in sides:
        if steep > 0:
            most = (bound, steep) if most is None else lesser(most, (bound, steep))
        elif steep < 0:
            least = (-bound, -steep) if least is None else greater(least, (-bound, -steep))
        elif bound < 0:
            return (0, 1)
    return minus(most, least) if is_below(least, most) else (0, 1)
