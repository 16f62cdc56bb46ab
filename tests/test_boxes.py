import random
import unittest
from fractions import Fraction
from itertools import permutations
from math import comb, factorial, prod

from anydraws.boxes import box_chance, box_table, is_box, met_box, mirrored_box, plain_box, saying_of_box
from anydraws.errors import InvalidBox
from anydraws.sayings import is_saying, saying_chance
from anydraws.steps import closed_chance
from tests.drawn import (
    all_throws, counted_chance, deepest_things, drawn_atoms, drawn_share, is_told_fraction, not_pairs_of_tuples,
    not_shares, number, odd_things, pair,
)
from tests.raising import RaisingCase

nil, one, half, third = (0, 1), (1, 1), (1, 2), (1, 3)
apart, crossed = ((nil, half), (half, one)), ((half, nil), (one, half))
TAKING_A_BOX = [box_chance, box_table, mirrored_box, plain_box, saying_of_box]


def shares_of(*numbers):
    return tuple(pair(x) for x in numbers)


def numbers_of(shares):
    return [number(share) for share in shares]


def drawn_box(rng, n, most=6):
    """A box of any shares."""
    return (tuple(drawn_share(rng, most) for _ in range(n)), tuple(drawn_share(rng, most) for _ in range(n)))


def wide_box(rng, n, most=6):
    """A box the lows of which are up to 1 / 2, the highs from 1 / 2 on: it may well have a chance."""
    lows, highs = drawn_box(rng, n, most)
    return (shares_of(*[x / 2 for x in numbers_of(lows)]), shares_of(*[1 - x / 2 for x in numbers_of(highs)]))


def close_box(rng, n, most=3):
    """A box around the even places."""
    lows = [max(Fraction(0), Fraction(i, n + 1) - Fraction(rng.randint(0, 6 * most), 12 * n)) for i in range(1, n + 1)]
    highs = [min(Fraction(1), Fraction(i, n + 1) + Fraction(rng.randint(0, 6 * most), 12 * n)) for i in range(1, n + 1)]
    return (shares_of(*lows), shares_of(*highs))


def any_boxes(rng, many):
    """Boxes of each n, plain and not, with and without a chance."""
    for n in range(1, 9):
        for drawn in (drawn_box, wide_box, close_box):
            for _ in range(many):
                yield n, drawn(rng, n)


def made_plain(box):
    lows, highs = box
    n = len(lows)
    plain_lows = [max(numbers_of(lows[:i + 1])) for i in range(n)]
    plain_highs = [min(numbers_of(highs[i:])) for i in range(n)]
    return (shares_of(*plain_lows), shares_of(*plain_highs))


def determinant(table):
    """By all orders of the columns for few rows, else by the first column."""
    rows = [numbers_of(row) for row in table]
    if len(rows) > 5:
        total = Fraction(0)
        for i, row in enumerate(rows):
            if row[0]:
                rest = [shares_of(*other[1:]) for k, other in enumerate(rows) if k != i]
                total += (-1) ** i * row[0] * determinant(rest)
        return total
    total = Fraction(0)
    for order in permutations(range(len(rows))):
        turns = sum(order[a] > order[b] for b in range(len(order)) for a in range(b))
        total += (-1) ** turns * prod(rows[i][j] for i, j in enumerate(order))
    return total


def chance_or_one(lows, highs):
    return number(box_chance((shares_of(*lows), shares_of(*highs)))) if lows else Fraction(1)


def sum_over(box, t):
    """The sum of [12] over how many of the evens are up to t."""
    lows, highs = numbers_of(box[0]), numbers_of(box[1])
    n = len(lows)
    total = Fraction(0)
    for k in range(n + 1):
        if all(low <= t for low in lows[:k]) and all(high >= t for high in highs[k:]):
            ahead = chance_or_one([low / t for low in lows[:k]], [min(high, t) / t for high in highs[:k]])
            behind = chance_or_one(
                [(max(low, t) - t) / (1 - t) for low in lows[k:]], [(high - t) / (1 - t) for high in highs[k:]])
            total += comb(n, k) * t ** k * (1 - t) ** (n - k) * ahead * behind
    return total


class Examples(unittest.TestCase):
    def test_chances_tables_and_mirrors(self):
        told = [box_chance(apart), box_table(apart), plain_box(crossed), box_chance(crossed), box_table(crossed)]
        told += [mirrored_box(((nil, third), (half, one)))]
        self.assertEqual(told, [
            (1, 2), (((1, 2), (0, 1)), ((1, 1), (1, 2))), (((1, 2), (1, 2)), ((1, 2), (1, 2))), (0, 1), None,
            (((0, 1), (1, 2)), ((2, 3), (1, 1))),
        ])

    def test_meetings_and_sayings(self):
        told = [met_box(apart, ((nil, nil), (third, one))), saying_of_box(apart)]
        told += [box_chance(((nil, third), (third, one)))]
        self.assertEqual(told, [
            (((0, 1), (1, 2)), ((1, 3), (1, 1))), (((-1, 2), (1, 2), (1, 2)), ((1, 2), (1, 2), (-1, 2))), (4, 9),
        ])


class Chances(unittest.TestCase):
    def test_against_counting(self):
        rng = random.Random(1)
        kinds = {True: 0, False: 0}
        for _, box in any_boxes(rng, 12):
            told = box_chance(box)
            self.assertTrue(is_told_fraction(told))
            self.assertEqual(number(told), counted_chance(*box), box)
            kinds[told[0] > 0] += 1
        self.assertGreater(min(kinds.values()), 60)

    def test_few_ends_against_counting(self):
        # Ends that are alike, among lows and highs, at 0 and at 1.
        rng = random.Random(2)
        ends = shares_of(0, Fraction(1, 3), Fraction(1, 2), 1)
        above = 0
        for n in range(1, 9):
            for _ in range(40):
                lows = tuple(rng.choice(ends[:3] if rng.random() < 0.5 else ends[:2]) for _ in range(n))
                highs = tuple(rng.choice(ends[1:] if rng.random() < 0.5 else ends[2:]) for _ in range(n))
                told = number(box_chance((lows, highs)))
                self.assertEqual(told, counted_chance(lows, highs), (lows, highs))
                above += told > 0
        self.assertGreater(above, 60)

    def test_lows_above_highs(self):
        rng = random.Random(3)
        for n in range(1, 9):
            for _ in range(5):
                lows, highs = wide_box(rng, n)
                k = rng.randrange(n)
                lows = lows[:k] + ((2, 3),) + lows[k + 1:]
                highs = highs[:k] + (half,) + highs[k + 1:]
                self.assertEqual(box_chance((lows, highs)), nil)

    def test_that_it_is_nought_just_if_a_plain_low_is_not_below_its_high(self):
        rng = random.Random(4)
        kinds = {True: 0, False: 0}
        for _, box in any_boxes(rng, 12):
            lows, highs = made_plain(box)
            is_open = all(low < high for low, high in zip(numbers_of(lows), numbers_of(highs)))
            self.assertEqual(box_chance(box) != nil, is_open, box)
            self.assertEqual(box_table(box) is not None, is_open, box)
            kinds[is_open] += 1
        self.assertGreater(min(kinds.values()), 60)

    def test_hardly_a_chance(self):
        tiny = Fraction(1, 10 ** 50)
        for n in range(1, 9):
            lows = shares_of(*[Fraction(1, 2)] * n)
            self.assertEqual(box_chance((lows, lows)), nil)
            self.assertIsNone(box_table((lows, lows)))
            highs = shares_of(*[Fraction(1, 2) + tiny] * n)
            self.assertEqual(number(box_chance((lows, highs))), tiny ** n)

    def test_one_draw(self):
        rng = random.Random(5)
        for _ in range(60):
            low, high = drawn_share(rng), drawn_share(rng)
            told = max(Fraction(0), number(high) - number(low))
            self.assertEqual(number(box_chance(((low,), (high,)))), told)

    def test_one_stretch_for_all_draws(self):
        for n in range(1, 9):
            self.assertEqual(box_chance(((nil,) * n, (one,) * n)), one)
            self.assertEqual(number(box_chance(((third,) * n, ((5, 6),) * n))), Fraction(1, 2) ** n)

    def test_stretches_side_by_side(self):
        # Each draw in its own part of n equal ones.
        for n in range(1, 9):
            lows = shares_of(*[Fraction(i, n) for i in range(n)])
            highs = shares_of(*[Fraction(i + 1, n) for i in range(n)])
            self.assertEqual(number(box_chance((lows, highs))), Fraction(factorial(n), n ** n))

    def test_daniels_line(self):
        for n in range(1, 9):
            for c in (Fraction(10 ** 200 + 1, 10 ** 200), Fraction(9, 8), Fraction(3, 2), Fraction(2), Fraction(31)):
                lows = shares_of(*[i / (n * c) for i in range(1, n + 1)])
                self.assertEqual(number(box_chance((lows, (one,) * n))), 1 - 1 / c)
                self.assertEqual(number(box_chance(mirrored_box((lows, (one,) * n)))), 1 - 1 / c)

    def test_the_sum_over_a_share(self):
        rng = random.Random(6)
        above = 0
        for _, box in any_boxes(rng, 4):
            lows, highs = numbers_of(box[0]), numbers_of(box[1])
            ends = [x for x in lows + highs if 0 < x < 1]
            ends += [Fraction(1, 2), Fraction(1, 7), Fraction(10 ** 9 - 1, 10 ** 9)]
            for t in rng.sample(ends, 3):
                told = number(box_chance(box))
                self.assertEqual(sum_over(box, t), told, (box, t))
                above += told > 0
        self.assertGreater(above, 60)

    def test_boxes_that_are_not_plain(self):
        rng = random.Random(7)
        for n, box in any_boxes(rng, 4):
            self.assertEqual(box_chance(plain_box(box)), box_chance(box))
            # A low that is no higher than one ahead of it asks for nothing, a high likewise from behind.
            lows, highs = made_plain(box)
            loose = lows[:1] + tuple(rng.choice((b, nil)) if a == b else b for a, b in zip(lows, lows[1:]))
            self.assertEqual(box_chance((loose, highs)), box_chance(box))

    def test_numbers_of_four_hundred_figures(self):
        big = 10 ** 399
        lows = shares_of(*[Fraction(i, big + i) for i in range(1, 9)])
        highs = shares_of(*[Fraction(big - 20 + i, big - i) for i in range(1, 9)])
        self.assertTrue(is_box((lows, highs)))
        self.assertEqual(number(box_chance((lows, highs))), counted_chance(lows, highs))
        self.assertEqual(determinant(box_table((lows, highs))) * factorial(8), counted_chance(lows, highs))


class Tables(unittest.TestCase):
    def test_against_its_words(self):
        rng = random.Random(8)
        done = 0
        for n, box in any_boxes(rng, 8):
            table = box_table(box)
            if table is None:
                self.assertEqual(counted_chance(*box), 0)
                continue
            done += 1
            lows, highs = [numbers_of(shares) for shares in made_plain(box)]
            self.assertIs(type(table), tuple)
            self.assertEqual(len(table), n)
            for i in range(1, n + 1):
                self.assertIs(type(table[i - 1]), tuple)
                self.assertEqual(len(table[i - 1]), n)
                for j in range(1, n + 1):
                    here = table[i - 1][j - 1]
                    self.assertTrue(is_told_fraction(here))
                    h, l = highs[i - 1], lows[j - 1]
                    if j < i - 1:
                        told = 0
                    elif j == i - 1:
                        told = 1
                    else:
                        told = 0 if h < l else (h - l) ** (j - i + 1) / factorial(j - i + 1)
                    self.assertEqual(number(here), told, (box, i, j))
        self.assertGreater(done, 60)

    def test_that_its_determinant_is_the_chance(self):
        rng = random.Random(9)
        for n, box in any_boxes(rng, 4):
            table = box_table(box)
            told = 0 if table is None else determinant(table) * factorial(n)
            self.assertEqual(number(box_chance(box)), told)

    def test_that_it_is_that_of_the_plain_form(self):
        box = ((third, nil), (one, half))
        self.assertEqual(box_table(box), box_table(((third, third), (half, half))))
        self.assertEqual(box_table(box), (((1, 6), (1, 72)), ((1, 1), (1, 6))))
        rng = random.Random(10)
        for _, box in any_boxes(rng, 3):
            self.assertEqual(box_table(box), box_table(plain_box(box)))


class PlainBoxes(unittest.TestCase):
    def test_against_its_words(self):
        rng = random.Random(11)
        for n, box in any_boxes(rng, 8):
            told = plain_box(box)
            self.assertEqual(told, made_plain(box))
            self.assertEqual([type(told), type(told[0]), type(told[1])], [tuple] * 3)
            self.assertTrue(is_box(told))
            self.assertEqual(plain_box(told), told)
            for shares in told:
                self.assertEqual(numbers_of(shares), sorted(numbers_of(shares)))

    def test_boxes_that_are_plain(self):
        for box in (apart, ((nil, nil), (one, one)), ((half, half), (third, half)), ((one,), (nil,))):
            self.assertEqual(plain_box(box), box)

    def test_falling_ends(self):
        box = (((1, 4), (1, 2), (0, 1), (1, 3)), ((1, 1), (2, 3), (3, 4), (1, 2)))
        self.assertEqual(plain_box(box), (((1, 4), (1, 2), (1, 2), (1, 2)), ((1, 2), (1, 2), (1, 2), (1, 2))))


class MirroredBoxes(unittest.TestCase):
    def test_against_its_words(self):
        rng = random.Random(12)
        for n, box in any_boxes(rng, 8):
            lows, highs = box
            told = mirrored_box(box)
            self.assertEqual(told[0], shares_of(*[1 - x for x in numbers_of(highs)[::-1]]))
            self.assertEqual(told[1], shares_of(*[1 - x for x in numbers_of(lows)[::-1]]))
            self.assertEqual(mirrored_box(told), box)
            self.assertTrue(is_box(told))

    def test_that_it_has_the_same_chance(self):
        rng = random.Random(13)
        for _, box in any_boxes(rng, 6):
            self.assertEqual(box_chance(mirrored_box(box)), box_chance(box))

    def test_that_it_goes_by_the_box_as_it_was_passed(self):
        self.assertEqual(mirrored_box(crossed), ((half, nil), (one, half)))
        self.assertEqual(mirrored_box(((third, nil), (one, half))), ((half, nil), (one, (2, 3))))


class MetBoxes(unittest.TestCase):
    def test_against_its_words(self):
        rng = random.Random(14)
        for n, box in any_boxes(rng, 6):
            other = wide_box(rng, n) if rng.random() < 0.5 else drawn_box(rng, n)
            lows = [max(pair_of) for pair_of in zip(numbers_of(box[0]), numbers_of(other[0]))]
            highs = [min(pair_of) for pair_of in zip(numbers_of(box[1]), numbers_of(other[1]))]
            told = met_box(box, other)
            self.assertEqual(told, made_plain((shares_of(*lows), shares_of(*highs))))
            self.assertEqual(met_box(other, box), told)
            self.assertEqual(met_box(plain_box(box), other), told)
            self.assertTrue(is_box(told))

    def test_a_box_met_with_itself(self):
        rng = random.Random(15)
        for n, box in any_boxes(rng, 6):
            self.assertEqual(met_box(box, box), plain_box(box))
            self.assertEqual(met_box(box, ((nil,) * n, (one,) * n)), plain_box(box))
            self.assertEqual(met_box(((nil,) * n, (one,) * n), box), plain_box(box))

    def test_that_it_says_what_both_say(self):
        # The saying of both together has the chance of the box that they have in common.
        rng = random.Random(16)
        for n in range(1, 5):
            for _ in range(10):
                box, other = wide_box(rng, n), close_box(rng, n)
                rows = (saying_of_box(box) or ()) + (saying_of_box(other) or ())
                if 0 < len(rows) <= 8:
                    self.assertEqual(box_chance(met_box(box, other)), saying_chance(rows))


class SayingsOfBoxes(unittest.TestCase):
    def test_against_its_words(self):
        rng = random.Random(17)
        told_some = 0
        for n, box in any_boxes(rng, 8):
            rows = []
            for i in range(1, n + 1):
                low, high = number(box[0][i - 1]), number(box[1][i - 1])
                if low != 0:
                    rows.append(shares_of(*[1 - low if place < i else -low for place in range(n + 1)]))
                if high != 1:
                    rows.append(shares_of(*[-(1 - high) if place < i else high for place in range(n + 1)]))
            told = saying_of_box(box)
            if n > 4 or not rows:
                self.assertIsNone(told)
            else:
                self.assertEqual(told, tuple(rows))
                self.assertIs(type(told), tuple)
                self.assertTrue(is_saying(told))
                told_some += 1
        self.assertGreater(told_some, 60)

    def test_that_it_has_the_boxes_chance(self):
        rng = random.Random(18)
        above = 0
        for n in range(1, 5):
            for drawn in (drawn_box, wide_box, close_box):
                for _ in range(12):
                    box = drawn(rng, n)
                    told = saying_of_box(box)
                    if told is not None:
                        self.assertEqual(saying_chance(told), box_chance(box), box)
                        above += box_chance(box)[0] > 0
        self.assertGreater(above, 40)

    def test_where_there_is_none(self):
        for n in range(1, 9):
            self.assertIsNone(saying_of_box(((nil,) * n, (one,) * n)))
            told = saying_of_box(((half,) * n, (half,) * n))
            self.assertEqual(told is None, n > 4)
            if told is not None:
                self.assertEqual(len(told), 2 * n)

    def test_lows_of_one_and_highs_of_nought(self):
        self.assertEqual(saying_of_box(((one,), (one,))), (((0, 1), (-1, 1)),))
        self.assertEqual(saying_of_box(((nil,), (nil,))), (((-1, 1), (0, 1)),))
        self.assertEqual(saying_of_box(((one,), (nil,))), (((0, 1), (-1, 1)), ((-1, 1), (0, 1))))

    def test_that_it_goes_by_the_box_as_it_was_passed(self):
        box = ((third, nil), (one, half))
        self.assertEqual(saying_of_box(box), (((2, 3), (-1, 3), (-1, 3)), ((-1, 2), (-1, 2), (1, 2))))

    def test_that_it_holds_for_all_distributions(self):
        # Its closed reading: F(X_i) is from the low on, F(X_i -) up to the high.
        rng = random.Random(19)
        for n in range(1, 5):
            for _ in range(12):
                box, shares = close_box(rng, n), drawn_atoms(rng)
                worths = numbers_of(shares)
                kept = Fraction(0)
                for places, chance in all_throws(n, worths):
                    if all(sum(worths[:at + 1]) >= number(box[0][i]) and sum(worths[:at]) <= number(box[1][i])
                           for i, at in enumerate(places)):
                        kept += chance
                self.assertGreaterEqual(kept, number(box_chance(box)))
                if saying_of_box(box) is not None:
                    self.assertEqual(number(closed_chance(saying_of_box(box), shares)), kept)


class IsBox(unittest.TestCase):
    def test_that_boxes_are_some(self):
        rng = random.Random(20)
        for _, box in any_boxes(rng, 2):
            self.assertIs(is_box(box), True)
        self.assertIs(is_box(((one,), (nil,))), True)
        self.assertIs(is_box(value=apart), True)

    def test_that_nothing_else_is_one(self):
        for thing in odd_things() + deepest_things():
            self.assertIs(is_box(thing), False)
            for value in ((thing,), [thing, thing], (thing, (one, one)), ((nil, nil), thing), ((thing,), (thing,))):
                self.assertIs(is_box(value), False)


class WrongBoxes(RaisingCase):
    def wrong(self, box, index):
        self.assertIs(is_box(box), False)
        for function in TAKING_A_BOX:
            self.raises_index(InvalidBox, index, function, box)
            self.raises_index(InvalidBox, index, function, box=box)
        self.raises_index(InvalidBox, index, met_box, box, apart)
        self.raises_index(InvalidBox, index, met_box, box, None)
        self.raises_index(InvalidBox, index, met_box, apart, box)
        self.raises_index(InvalidBox, index, met_box, other=None, box=box)
        self.raises_index(InvalidBox, index, met_box, other=box, box=crossed)

    def test_no_pair_of_tuples(self):
        for thing in not_pairs_of_tuples():
            self.wrong(thing, None)

    def test_the_number_of_shares(self):
        for low in range(11):
            for high in range(11):
                box = ((nil,) * low, (one,) * high)
                if low == high and 1 <= low <= 8:
                    self.assertIs(is_box(box), True)
                else:
                    self.wrong(box, None)
        self.wrong(((nil,) * 300, (one,) * 300), None)
        # The form comes first, whatever stands within.
        self.wrong(((None,) * 9, (None,) * 9), None)
        self.wrong(((None, None), (nil, nil, nil)), None)
        self.wrong(((), ()), None)

    def test_what_is_no_share(self):
        for thing in not_shares():
            self.wrong(((thing, one), (nil, one)), 0)
            self.wrong(((nil, thing), (nil, one)), 0)
            self.wrong(((nil, one), (thing, one)), 1)
            self.wrong(((nil, one), (nil, thing)), 1)
            self.wrong(((thing, one), (thing, one)), 0)
            self.wrong(((nil, thing), (thing, one)), 0)

    def test_other_of_another_number_of_draws(self):
        for n in range(1, 9):
            box = ((nil,) * n, (one,) * n)
            for m in range(1, 9):
                other = ((half,) * m, (one,) * m)
                if n == m:
                    self.assertEqual(met_box(box, other), other)
                else:
                    self.raises_index(InvalidBox, None, met_box, box, other)
                    self.raises_index(InvalidBox, None, met_box, other=other, box=box)
                    # That comes ahead of what stands within.
                    self.raises_index(InvalidBox, None, met_box, box, ((None,) * m, (one,) * m))
            self.raises_index(InvalidBox, 0, met_box, box, ((None,) * n, (None,) * n))
            self.raises_index(InvalidBox, 1, met_box, box, ((nil,) * n, (None,) * n))
            self.raises_index(InvalidBox, 1, met_box, ((nil,) * n, (None,) * n), ((None,), (None,)))


class Calls(unittest.TestCase):
    def test_by_name_and_again(self):
        rng = random.Random(21)
        for n, box in any_boxes(rng, 1):
            kept = tuple(tuple(tuple(share) for share in shares) for shares in box)
            for function in TAKING_A_BOX:
                self.assertEqual(function(box=box), function(kept))
            self.assertEqual(met_box(other=box, box=kept), met_box(kept, box))
            self.assertEqual(box, kept)
