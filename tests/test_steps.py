import random
import unittest
from fractions import Fraction
from itertools import product
from math import prod

from anydraws.bands import band_box, band_sureness, even_band
from anydraws.errors import InvalidBand, InvalidIndex, InvalidSaying, InvalidShare, InvalidShares, TooMany
from anydraws.sayings import greatest_closed, least_open, mirrored_saying, saying_chance
from anydraws.steps import are_shares, band_chance, closed_chance, open_chance, parted
from tests.drawn import (
    all_throws, deepest_things, drawn_atoms, drawn_band, drawn_inner_share, drawn_row, drawn_saying, is_told_fraction,
    not_fractions, not_inner_shares, number, odd_things, opposite, pair, times, wide_band,
)
from tests.raising import RaisingCase

nil, one, less, half, third = (0, 1), (1, 1), (-1, 1), (1, 2), (1, 3)
quarters = ((1, 4),) * 4
middle, falling, never = ((less, one, less),), ((one, less, nil), (nil, one, less)), ((one, less), (less, one))


def row_of(*numbers):
    return tuple(pair(n) for n in numbers)


def ends_of_atoms(shares):
    """For each atom F just below it and F at it."""
    worths = [number(share) for share in shares]
    return [(sum(worths[:k], Fraction(0)), sum(worths[:k + 1])) for k in range(len(worths))]


def is_read(saying, atoms, shares, closed):
    """Whether a reading holds by the rule of [10], with the atoms of the draws in order."""
    ends = ends_of_atoms(shares)
    for row in saying:
        h = [number(n) for n in row]
        total = h[-1]
        for i, atom in enumerate(atoms, start=1):
            low, high = ends[atom]
            if h[i - 1] > h[i]:
                total += (h[i - 1] - h[i]) * (high if closed else low)
            else:
                total += (h[i - 1] - h[i]) * (low if closed else high)
        if total < 0:
            return False
    return True


def counted_reading(saying, shares, closed):
    """The chance of a reading, each draw falling on each atom on its own."""
    total = Fraction(0)
    for places in product(range(len(shares)), repeat=len(saying[0]) - 1):
        if is_read(saying, sorted(places), shares, closed):
            total += prod(number(shares[place]) for place in places)
    return total


def is_in_band(band, places, shares):
    """Whether the band holds F at all numbers, the atoms being at 0, 1, .."""
    low, high = band
    for x in range(-1, len(shares)):
        reached = sum((number(share) for share in shares[:x + 1]), Fraction(0))
        up_to = sum(place <= x for place in places)
        if not number(low[up_to]) <= reached <= number(high[up_to]):
            return False
    return True


def counted_band(band, shares):
    chances = [number(share) for share in shares]
    throws = all_throws(len(band[0]) - 1, chances)
    return sum((chance for places, chance in throws if is_in_band(band, places, shares)), Fraction(0))


def small_saying(rng, count=None):
    """A saying of few unlike numbers, the sums of which are often just 0."""
    count = count or rng.randint(2, 5)
    while True:
        rows = [[rng.choice((-2, -1, 0, 1, 1, 2)) for _ in range(count)] for _ in range(rng.randint(1, 3))]
        if all(any(row) for row in rows):
            return tuple(row_of(*row) for row in rows)


def drawn_parting(rng, shares):
    return parted(shares, rng.randrange(len(shares)), drawn_inner_share(rng, 6))


class Examples(unittest.TestCase):
    def test_steps(self):
        told = [closed_chance(middle, quarters), open_chance(middle, quarters), closed_chance(middle, (half, half))]
        told += [closed_chance(middle, (one,)), open_chance(middle, (one,)), parted((half, half), 1, half)]
        told += [are_shares((half, third))]
        self.assertEqual(told, [(3, 4), (1, 8), (1, 1), (1, 1), (0, 1), ((1, 2), (1, 4), (1, 4)), False])


class Readings(unittest.TestCase):
    def both(self, saying, shares):
        told = [closed_chance(saying, shares), open_chance(saying, shares)]
        for chance in told:
            self.assertTrue(is_told_fraction(chance))
            self.assertTrue(0 <= chance[0] <= chance[1])
        return [number(chance) for chance in told]

    def test_against_counting(self):
        rng = random.Random(1)
        kinds = {}
        for count in range(2, 6):
            for atoms in range(1, 6):
                for _ in range(8):
                    saying = small_saying(rng, count)
                    shares = drawn_atoms(rng, atoms, most=3)
                    told = self.both(saying, shares)
                    self.assertEqual(told[0], counted_reading(saying, shares, True), (saying, shares))
                    self.assertEqual(told[1], counted_reading(saying, shares, False), (saying, shares))
                    kinds[told[0] == told[1], 0 < told[0] < 1, 0 < told[1] < 1] = True
        self.assertGreaterEqual(len(kinds), 5)

    def test_many_rows_against_counting(self):
        rng = random.Random(2)
        for rows in range(1, 9):
            for count in range(2, 6):
                saying = drawn_saying(rng, rows, count, low=-2)
                shares = drawn_atoms(rng, most=9)
                told = self.both(saying, shares)
                self.assertEqual(told[0], counted_reading(saying, shares, True))
                self.assertEqual(told[1], counted_reading(saying, shares, False))

    def test_that_each_row_is_read_by_its_own_numbers(self):
        # A row and its opposite: closed, both sums may be from 0 on, as each takes the ends that help it.
        both = (row_of(-1, 1, -1), row_of(1, -1, 1))
        self.assertEqual(saying_chance(both), nil)
        self.assertEqual(closed_chance(both, (half, half)), one)
        self.assertEqual(closed_chance(both, quarters), (3, 4))
        # Open, one of them is below 0 unless the sum is just 0.
        self.assertEqual(open_chance(both, quarters), nil)

    def test_sums_of_just_nought(self):
        # B_0 >= 1 / 2 for one draw: F(X) or F(X -) is from 1 / 2 on.
        saying = (row_of(1, -1),)
        self.assertEqual([closed_chance(saying, (half, half)), open_chance(saying, (half, half))], [(1, 1), (1, 2)])
        short, long = ((49, 100), (51, 100)), ((51, 100), (49, 100))
        self.assertEqual([closed_chance(saying, short), open_chance(saying, short)], [(51, 100), (0, 1)])
        self.assertEqual([closed_chance(saying, long), open_chance(saying, long)], [(1, 1), (49, 100)])

    def test_that_the_sayings_chance_is_between(self):
        rng = random.Random(3)
        for _ in range(150):
            saying = drawn_saying(rng, rows=rng.randint(1, 4), low=-3)
            closed, opened = self.both(saying, drawn_atoms(rng))
            told = number(saying_chance(saying))
            self.assertLessEqual(told, closed)
            self.assertLessEqual(opened, told)

    def test_one_atom(self):
        rng = random.Random(4)
        seen = {}
        for _ in range(200):
            saying = drawn_saying(rng, rows=rng.randint(1, 3))
            told = self.both(saying, (one,))
            self.assertEqual(told, [greatest_closed(saying), least_open(saying)], saying)
            seen[tuple(told)] = True
        self.assertEqual(sorted(seen), [(0, 0), (1, 0), (1, 1)])

    def test_that_parting_never_helps(self):
        rng = random.Random(5)
        changes = 0
        for _ in range(60):
            saying = drawn_saying(rng, rows=rng.randint(1, 3)) if rng.random() < 0.5 else small_saying(rng)
            shares = drawn_atoms(rng, 1)
            closed, opened = self.both(saying, shares)
            while len(shares) < 5:
                shares = drawn_parting(rng, shares)
                now_closed, now_opened = self.both(saying, shares)
                self.assertLessEqual(now_closed, closed, (saying, shares))
                self.assertGreaterEqual(now_opened, opened, (saying, shares))
                changes += now_closed < closed
                changes += now_opened > opened
                closed, opened = now_closed, now_opened
        self.assertGreater(changes, 40)

    def test_mirrored_sayings_and_shares(self):
        rng = random.Random(6)
        for _ in range(60):
            saying, shares = drawn_saying(rng, rows=rng.randint(1, 4), low=-3), drawn_atoms(rng)
            self.assertEqual(self.both(mirrored_saying(saying), shares[::-1]), self.both(saying, shares))

    def test_a_row_and_its_opposite(self):
        # Closed the row is from 0 on, or open the opposite one is above 0.
        rng = random.Random(7)
        for _ in range(60):
            row, shares = drawn_row(rng, rng.randint(2, 5)), drawn_atoms(rng)
            closed, opened = closed_chance((row,), shares), open_chance((opposite(row),), shares)
            self.assertGreaterEqual(number(closed) + number(opened), 1)

    def test_rows_in_another_order_doubled_and_times_an_amount(self):
        rng = random.Random(8)
        for _ in range(40):
            saying, shares = drawn_saying(rng, rows=rng.randint(1, 4), low=-2), drawn_atoms(rng)
            told = self.both(saying, shares)
            self.assertEqual(self.both(saying[::-1] + saying[:1], shares), told)
            self.assertEqual(self.both(tuple(times(row, Fraction(5, 7)) for row in saying), shares), told)

    def test_numbers_of_four_hundred_figures(self):
        big = 10 ** 399
        first = Fraction(big // 3, big)
        shares = (pair(first), pair(Fraction(1, big + 1)), pair(1 - first - Fraction(1, big + 1)))
        self.assertTrue(are_shares(shares))
        saying = (row_of(Fraction(big + 1, big), -1, Fraction(-1, big)), row_of(-1, big, -big))
        closed, opened = self.both(saying, shares)
        self.assertEqual(closed, counted_reading(saying, shares, True))
        self.assertEqual(opened, counted_reading(saying, shares, False))


class BandChance(unittest.TestCase):
    def test_against_counting(self):
        rng = random.Random(9)
        between = 0
        for n in range(1, 9):
            for atoms in range(1, 6):
                for drawn in (drawn_band, wide_band):
                    band, shares = drawn(rng, n), drawn_atoms(rng, atoms, most=3)
                    told = band_chance(band, shares)
                    self.assertTrue(is_told_fraction(told))
                    self.assertEqual(number(told), counted_band(band, shares), (band, shares))
                    between += 0 < told[0] < told[1]
        self.assertGreater(between, 20)

    def test_against_counting_draw_by_draw(self):
        rng = random.Random(10)
        for n in range(1, 5):
            for _ in range(6):
                band, shares = wide_band(rng, n), drawn_atoms(rng, most=3)
                total = Fraction(0)
                for places in product(range(len(shares)), repeat=n):
                    if is_in_band(band, places, shares):
                        total += prod(number(shares[place]) for place in places)
                self.assertEqual(number(band_chance(band, shares)), total)

    def test_that_it_is_never_below_the_sureness(self):
        rng = random.Random(11)
        for _ in range(80):
            n = rng.randint(1, 8)
            band = wide_band(rng, n) if rng.random() < 0.7 else drawn_band(rng, n)
            self.assertGreaterEqual(number(band_chance(band, drawn_atoms(rng))), number(band_sureness(band)))

    def test_that_it_never_grows_with_an_atom_parted(self):
        rng = random.Random(12)
        changes = 0
        for _ in range(60):
            n = rng.randint(1, 8)
            band = even_band(n, drawn_inner_share(rng)) if rng.random() < 0.5 else wide_band(rng, n)
            shares = drawn_atoms(rng, 1)
            told = band_chance(band, shares)
            while len(shares) < 5:
                shares = drawn_parting(rng, shares)
                now = band_chance(band, shares)
                self.assertLessEqual(number(now), number(told), (band, shares))
                changes += now != told
                told = now
        self.assertGreater(changes, 40)

    def test_that_below_all_atoms_nothing_is_reached(self):
        for n in range(1, 9):
            band = ((nil,) * (n + 1), (one,) * (n + 1))
            for shares in ((one,), (half, half), quarters):
                self.assertEqual(band_chance(band, shares), one)
                self.assertEqual(band_chance((((1, 10 ** 399),) + band[0][1:], band[1]), shares), nil)
                self.assertEqual(band_chance((band[0], band[1][:-1] + ((10 ** 399 - 1, 10 ** 399),)), shares), nil)
                # The first one of HIGH bounds F ahead of the first draw alone.
                self.assertEqual(band_chance((band[0], (nil,) + band[1][1:]), (one,)), one)

    def test_bounds_that_are_just_reached(self):
        # With one draw on the first of two halves F is 1 / 2 from there on, with a draw up to it.
        self.assertEqual(band_chance(((nil, half), (half, one)), (half, half)), one)
        self.assertEqual(band_chance(((nil, (51, 100)), (half, one)), (half, half)), half)
        self.assertEqual(band_chance(((nil, half), ((49, 100), one)), (half, half)), half)
        self.assertEqual(band_chance(((nil, (51, 100)), ((49, 100), one)), (half, half)), nil)

    def test_a_band_that_says_nothing_of_a_lone_atom(self):
        # All draws fall on it: only the first of LOW and the last of HIGH are asked.
        rng = random.Random(13)
        for n in range(1, 9):
            low, high = drawn_band(rng, n)
            told = band_chance((low, high), (one,))
            self.assertEqual(told, one)
            self.assertEqual(band_chance(((nil,) + (one,) * n, (nil,) * n + (one,)), (one,)), one)

    def test_against_the_closed_reading_of_its_box(self):
        # [14]: it is so at least where the closed reading of the box holds.
        rng = random.Random(14)
        for _ in range(40):
            n = rng.randint(1, 4)
            band, shares = wide_band(rng, n), drawn_atoms(rng)
            ends = ends_of_atoms(shares)
            lows, highs = band_box(band)
            reading = Fraction(0)
            for places, chance in all_throws(n, [number(share) for share in shares]):
                if all(ends[at][1] >= number(low) and ends[at][0] <= number(high)
                       for low, high, at in zip(lows, highs, places)):
                    reading += chance
            self.assertGreaterEqual(number(band_chance(band, shares)), reading)

    def test_mirrored_bands_and_shares(self):
        rng = random.Random(15)
        for _ in range(40):
            low, high = wide_band(rng, rng.randint(1, 8))
            mirrored = (tuple(pair(1 - number(x)) for x in high[::-1]), tuple(pair(1 - number(x)) for x in low[::-1]))
            shares = drawn_atoms(rng)
            self.assertEqual(band_chance(mirrored, shares[::-1]), band_chance((low, high), shares))

    def test_numbers_of_four_hundred_figures(self):
        big = 10 ** 399
        band = ((nil, half, (big - 1, big)), ((1, big), (big // 2 + 1, big), one))
        shares = (pair(Fraction(1, big)), pair(Fraction(big // 2, big)), pair(Fraction(big // 2 - 1, big)))
        self.assertEqual(number(band_chance(band, shares)), counted_band(band, shares))


class Parted(unittest.TestCase):
    def test_all_places(self):
        rng = random.Random(16)
        for atoms in range(1, 5):
            for place in range(atoms):
                for _ in range(6):
                    shares, part = drawn_atoms(rng, atoms), drawn_inner_share(rng)
                    told = parted(shares, place, part)
                    whole = number(shares[place])
                    here = pair(whole * number(part)), pair(whole * (1 - number(part)))
                    self.assertEqual(told, shares[:place] + here + shares[place + 1:])
                    self.assertIs(type(told), tuple)
                    self.assertTrue(are_shares(told))

    def test_what_is_returned_may_be_passed_again(self):
        shares, part = (one,), (10 ** 399 - 1, 10 ** 399)
        for _ in range(4):
            shares = parted(shares, len(shares) - 1, part)
        self.assertEqual(len(shares), 5)
        self.assertTrue(are_shares(shares))
        self.assertEqual(number(closed_chance(middle, shares)), counted_reading(middle, shares, True))
        self.assertEqual(number(open_chance(middle, shares)), counted_reading(middle, shares, False))

    def test_too_many(self):
        five = ((1, 5),) * 5
        for place in range(5):
            with self.assertRaises(TooMany) as caught:
                parted(five, place, half)
            self.assertEqual(vars(caught.exception), {})
        self.assertEqual(len(parted(quarters, 3, half)), 5)


class AreShares(unittest.TestCase):
    def test_that_shares_are_some(self):
        rng = random.Random(17)
        for atoms in range(1, 6):
            for _ in range(10):
                self.assertIs(are_shares(drawn_atoms(rng, atoms)), True)
        self.assertIs(are_shares((one,)), True)
        self.assertIs(are_shares(((10 ** 399 - 1, 10 ** 399), (1, 10 ** 399))), True)
        self.assertIs(are_shares(value=quarters), True)

    def test_that_nothing_else_is_some(self):
        for thing in odd_things() + deepest_things():
            self.assertIs(are_shares(thing), False)
            for value in ((thing,), (thing, thing), (half, thing), (thing, half), [thing], (half, half, thing)):
                self.assertIs(are_shares(value), False)


class WrongShares(RaisingCase):
    def wrong(self, shares, index):
        self.assertIs(are_shares(shares), False)
        band = even_band(2, half)
        self.raises_index(InvalidShares, index, closed_chance, middle, shares)
        self.raises_index(InvalidShares, index, closed_chance, shares=shares, saying=never)
        self.raises_index(InvalidShares, index, open_chance, middle, shares)
        self.raises_index(InvalidShares, index, open_chance, shares=shares, saying=never)
        self.raises_index(InvalidShares, index, band_chance, band, shares)
        self.raises_index(InvalidShares, index, band_chance, shares=shares, band=band)
        self.raises_index(InvalidShares, index, parted, shares, 0, half)
        self.raises_index(InvalidShares, index, parted, part=None, place=None, shares=shares)

    def test_no_tuple_of_one_to_five(self):
        for thing in odd_things() + deepest_things():
            if type(thing) is not tuple or len(thing) == 0:
                self.wrong(thing, None)
        for shares in ((), ((1, 6),) * 6, (one,) * 6, (None,) * 6, (half,) * 300, [half, half], list(quarters), [one]):
            self.wrong(shares, None)
        self.wrong({0: one}, None)

    def test_the_first_that_is_no_fraction_above_nought(self):
        for thing in not_fractions() + [nil, less, (-1, 2), (-10 ** 399, 1)]:
            self.wrong((thing,), 0)
            self.wrong((thing, one), 0)
            self.wrong((one, thing), 1)
            self.wrong((thing, thing), 0)
            self.wrong((half, thing, half), 1)
            self.wrong((half, half, thing, nil), 2)
            self.wrong(((1, 5),) * 4 + (thing,), 4)
            self.wrong((half, (3, 2), (9, 1), thing, thing), 3)

    def test_a_sum_that_is_not_one(self):
        tiny = pair(Fraction(1, 10 ** 399))
        for shares in (
            (half,), ((2, 1),), ((10 ** 399 - 1, 10 ** 399),), ((10 ** 399 + 1, 10 ** 399),), (half, third),
            (half, one), (one, one), (half, half, tiny), (half, half, tiny, tiny), (third, third, third, tiny),
            ((1, 5),) * 4,
            quarters + (tiny,), ((2, 5),) * 5, (third, third, third, third), ((3, 2), (1, 2)), (one, half, half),
        ):
            self.wrong(shares, len(shares) - 1)


class WrongOthers(RaisingCase):
    def test_saying(self):
        row = (one, less)
        for saying, index in (
            (None, None), ((), None), ([row], None), ((row, nil), 1), ((row, (nil, nil)), 1), (((one,),), 0),
            ((row,) * 9, 8),
        ):
            for function in (closed_chance, open_chance):
                self.raises_index(InvalidSaying, index, function, saying, quarters)
                self.raises_index(InvalidSaying, index, function, saying, None)
                self.raises_index(InvalidSaying, index, function, shares=(), saying=saying)

    def test_band(self):
        row = (nil, one)
        for band, index in (
            (None, None), ((row,), None), ((row, row, row), None), ([row, row], None), ((nil, one), 0),
            (((one,), (one,)), None), ((row, (one, less)), 1), ((row * 5, row * 5), None),
            (((True, one), (one, None)), 0),
        ):
            self.raises_index(InvalidBand, index, band_chance, band, quarters)
            self.raises_index(InvalidBand, index, band_chance, band, None)
            self.raises_index(InvalidBand, index, band_chance, shares=(), band=band)

    def test_place(self):
        for atoms in range(1, 6):
            shares = (pair(Fraction(1, atoms)),) * atoms
            for thing in odd_things() + deepest_things() + [-1, -atoms, atoms, atoms + 1, 10 ** 399, "0", (0,)]:
                self.raises_given(InvalidIndex, thing, parted, shares, thing, half)
                self.raises_given(InvalidIndex, thing, parted, shares, thing, None)
                self.raises_given(InvalidIndex, thing, parted, part=half, place=thing, shares=shares)

    def test_part(self):
        for atoms in (1, 3, 5):
            shares = (pair(Fraction(1, atoms)),) * atoms
            for thing in not_inner_shares() + deepest_things():
                self.raises_given(InvalidShare, thing, parted, shares, atoms - 1, thing)
                self.raises_given(InvalidShare, thing, parted, part=thing, shares=shares, place=0)

    def test_that_too_many_comes_last(self):
        five = ((1, 5),) * 5
        self.raises_given(InvalidIndex, 5, parted, five, 5, half)
        self.raises_given(InvalidShare, one, parted, five, 4, one)
        self.raises_index(InvalidShares, None, parted, five + (half,), 4, half)
        self.raised(TooMany, parted, (five, 4, half), {})


class Calls(unittest.TestCase):
    def test_by_name_and_again(self):
        rng = random.Random(18)
        for _ in range(10):
            saying, shares, band = drawn_saying(rng), drawn_atoms(rng), wide_band(rng, rng.randint(1, 8))
            kept = tuple(tuple(tuple(h) for h in row) for row in saying), tuple(tuple(s) for s in shares)
            self.assertEqual(closed_chance(shares=shares, saying=saying), closed_chance(saying, shares))
            self.assertEqual(open_chance(shares=shares, saying=saying), open_chance(saying, shares))
            self.assertEqual(band_chance(shares=shares, band=band), band_chance(band, shares))
            if len(shares) < 5:
                self.assertEqual(parted(part=half, place=0, shares=shares), parted(shares, 0, half))
            self.assertEqual((saying, shares), kept)
