import random
import unittest
from fractions import Fraction
from math import comb, factorial

from anydraws.bands import (
    band_box, band_sureness, even_band, even_pieces, even_sureness, even_width_near, is_band, one_sided_sureness,
)
from anydraws.errors import InvalidBand, InvalidNumber, InvalidShare
from anydraws.sayings import saying_chance
from anydraws.steps import band_chance
from tests.drawn import (
    counted_chance, deepest_things, drawn_band, drawn_share, is_told_fraction, not_counts, not_pairs_of_tuples,
    not_shares, number, odd_things, pair, wide_band,
)
from tests.raising import RaisingCase

nil, one, half, third = (0, 1), (1, 1), (1, 2), (1, 3)
apart = ((nil, half), (half, one))
quarters = ((1, 4),) * 4


def worth(numbers, width):
    return sum((number(a) * width ** k for k, a in enumerate(numbers)), Fraction(0))


def one_sided_sum(n, w):
    """1 less the sum of [15], for a width above 0."""
    total = Fraction(0)
    j = 0
    while j <= n * (1 - w):
        at = w + Fraction(j, n)
        total += w * comb(n, j) * (1 - at) ** (n - j) * (at ** (j - 1) if j else 1 / at)
        j += 1
    return 1 - total


def drawn_widths(rng, many):
    return [Fraction(rng.randint(0, 60), 60) for _ in range(many)]


class Examples(unittest.TestCase):
    def test_bands(self):
        wide = even_band(2, half)
        told = [wide, band_box(wide) == apart, band_sureness(wide), even_sureness(2, (1, 4))]
        told += [one_sided_sureness(2, half), band_sureness(((half, half), (one, one)))]
        self.assertEqual(told, [
            (((0, 1), (0, 1), (1, 2)), ((1, 2), (1, 1), (1, 1))), True, (1, 2), (0, 1), (3, 4), (0, 1),
        ])

    def test_pieces(self):
        self.assertEqual(even_pieces(2), (
            ((0, 1), (1, 4), ()), ((1, 4), (1, 2), ((1, 2), (-4, 1), (8, 1))),
            ((1, 2), (1, 1), ((-1, 1), (4, 1), (-2, 1))),
        ))

    def test_widths(self):
        wide = even_band(2, half)
        told = [even_width_near(2, half, 10), even_width_near(2, one, 7), even_width_near(1, half, 9)]
        told += [band_chance(wide, (half, half)), band_chance(wide, quarters)]
        self.assertEqual(told, [(5, True), (7, True), (6, False), (1, 1), (7, 8)])


class BandBox(unittest.TestCase):
    def test_that_it_is_low_but_its_first_and_high_but_its_last(self):
        rng = random.Random(1)
        for n in range(1, 9):
            low, high = drawn_band(rng, n)
            self.assertEqual(band_box((low, high)), (low[1:], high[:-1]))

    def test_that_it_is_passed_on_as_it_was(self):
        # Bounds that fall and lie above one another are let, and not made plain.
        band = ((nil, one, nil, half), (one, nil, third, one))
        self.assertEqual(band_box(band), ((one, nil, half), (one, nil, third)))

    def test_that_there_is_none_for_another_beginning_or_end(self):
        for n in range(1, 9):
            good = ((nil,) * (n + 1), (one,) * (n + 1))
            self.assertIsNotNone(band_box(good))
            for share in ((1, 10 ** 399), half, one):
                self.assertIsNone(band_box(((share,) + (one,) * n, (one,) * (n + 1))))
            for share in ((10 ** 399 - 1, 10 ** 399), half, nil):
                self.assertIsNone(band_box(((nil,) * (n + 1), (one,) * n + (share,))))
            self.assertIsNone(band_box(((one,) * (n + 1), (nil,) * (n + 1))))


class BandSureness(unittest.TestCase):
    def test_against_counting(self):
        rng = random.Random(2)
        above = 0
        for n in range(1, 9):
            for drawn in (drawn_band, wide_band):
                for _ in range(15):
                    low, high = drawn(rng, n)
                    told = band_sureness((low, high))
                    self.assertTrue(is_told_fraction(told))
                    self.assertEqual(number(told), counted_chance(low[1:], high[:-1]), (low, high))
                    above += told[0] > 0
        self.assertGreater(above, 60)

    def test_against_sayings(self):
        rng = random.Random(3)
        for n in range(1, 5):
            for _ in range(15):
                low, high = wide_band(rng, n)
                rows = []
                for i in range(n):
                    bottom, top = number(low[i + 1]), number(high[i])
                    rows.append(tuple(pair(1 - bottom if j <= i else -bottom) for j in range(n + 1)))
                    rows.append(tuple(pair(top - 1 if j <= i else top) for j in range(n + 1)))
                self.assertEqual(band_sureness((low, high)), saying_chance(tuple(rows)))

    def test_that_it_is_nought_for_another_beginning_or_end(self):
        rng = random.Random(4)
        for n in range(1, 9):
            low, high = (nil,) * (n + 1), (one,) * (n + 1)
            self.assertEqual(band_sureness((low, high)), one)
            for share in ((1, 10 ** 399), third, one):
                self.assertEqual(band_sureness(((share,) + low[1:], high)), nil)
            for share in ((10 ** 399 - 1, 10 ** 399), third, nil):
                self.assertEqual(band_sureness((low, high[:-1] + (share,))), nil)
            low, high = wide_band(rng, n)
            self.assertEqual(band_sureness(((half,) + low[1:], high)), nil)
            self.assertEqual(band_sureness((low, high[:-1] + (half,))), nil)

    def test_that_it_is_nought_where_a_low_is_not_below_its_high(self):
        self.assertEqual(band_sureness(((nil, half), (half, one))), nil)
        self.assertEqual(band_sureness(((nil, half), (third, one))), nil)
        self.assertEqual(band_sureness(((nil, one), (one, one))), nil)
        self.assertEqual(band_sureness(((nil, nil), (nil, one))), nil)
        # Only made plain does the first low pass the second high.
        self.assertEqual(band_sureness(((nil, half, nil), (one, half, one))), nil)
        self.assertEqual(band_sureness(((nil, third, nil), (one, half, one))), (1, 36))

    def test_one_draw(self):
        rng = random.Random(5)
        for _ in range(40):
            low, high = drawn_share(rng), drawn_share(rng)
            told = max(Fraction(0), number(high) - number(low))
            self.assertEqual(number(band_sureness(((nil, low), (high, one)))), told)

    def test_daniels_line(self):
        for n in range(1, 9):
            for c in (Fraction(3, 2), Fraction(2), Fraction(10 ** 200 + 1, 10 ** 200)):
                low = tuple(pair(Fraction(i, n) / c) for i in range(n + 1))
                self.assertEqual(number(band_sureness((low, (one,) * (n + 1)))), 1 - 1 / c)

    def test_that_bounds_that_fall_are_made_plain(self):
        rng = random.Random(6)
        for _ in range(40):
            n = rng.randint(2, 8)
            low, high = wide_band(rng, n)
            plain_low = tuple(pair(max(number(x) for x in low[:k + 1])) for k in range(n + 1))
            plain_high = tuple(pair(min(number(x) for x in high[k:])) for k in range(n + 1))
            self.assertEqual(band_sureness((low, high)), band_sureness((plain_low, plain_high)))

    def test_the_mirrored_band(self):
        rng = random.Random(7)
        for _ in range(40):
            low, high = wide_band(rng, rng.randint(1, 8))
            mirrored = (tuple(pair(1 - number(x)) for x in high[::-1]), tuple(pair(1 - number(x)) for x in low[::-1]))
            self.assertEqual(band_sureness(mirrored), band_sureness((low, high)))

    def test_numbers_of_four_hundred_figures(self):
        big = 10 ** 399
        low = (nil,) + tuple(pair(Fraction(k, big + 9 - k)) for k in range(1, 9))
        high = tuple(pair(Fraction(big - k, big)) for k in range(1, 9)) + (one,)
        self.assertTrue(is_band((low, high)))
        self.assertEqual(number(band_sureness((low, high))), counted_chance(low[1:], high[:-1]))


class EvenBand(unittest.TestCase):
    def test_the_band(self):
        for n in range(1, 9):
            for w in (Fraction(0), Fraction(1, 7), Fraction(1, 2 * n), Fraction(1, n), Fraction(3, 5), Fraction(1)):
                low = tuple(pair(max(Fraction(0), Fraction(k, n) - w)) for k in range(n + 1))
                high = tuple(pair(min(Fraction(1), Fraction(k, n) + w)) for k in range(n + 1))
                self.assertEqual(even_band(n, pair(w)), (low, high))
                self.assertTrue(is_band(even_band(n, pair(w))))

    def test_the_ends(self):
        self.assertEqual(even_band(1, nil), ((nil, one), (nil, one)))
        self.assertEqual(even_band(3, one), ((nil,) * 4, (one,) * 4))

    def test_the_sureness_is_that_of_the_band(self):
        rng = random.Random(8)
        for n in range(1, 9):
            for w in drawn_widths(rng, 12):
                told = even_sureness(n, pair(w))
                self.assertEqual(told, band_sureness(even_band(n, pair(w))))
                low, high = even_band(n, pair(w))
                self.assertEqual(number(told), counted_chance(low[1:], high[:-1]))

    def test_where_it_is_nought_and_one(self):
        for n in range(1, 9):
            for w in (Fraction(0), Fraction(1, 4 * n), Fraction(1, 2 * n)):
                self.assertEqual(even_sureness(n, pair(w)), nil)
            self.assertGreater(even_sureness(n, pair(Fraction(1, 2 * n) + Fraction(1, 10 ** 399)))[0], 0)
            self.assertEqual(even_sureness(n, one), one)
            self.assertNotEqual(even_sureness(n, (10 ** 399 - 1, 10 ** 399)), one)

    def test_that_it_grows(self):
        for n in range(1, 9):
            last = Fraction(0)
            for k in range(31, 61):
                told = number(even_sureness(n, pair(Fraction(1, 2 * n) + (1 - Fraction(1, 2 * n)) * (k - 30) / 30)))
                self.assertGreater(told, last)
                last = told

    def test_the_widths_at_the_ends(self):
        for n in range(1, 9):
            for part in (Fraction(0), Fraction(1, 3), Fraction(1, 2), Fraction(1)):
                w = (1 + part) / (2 * n)
                self.assertEqual(number(even_sureness(n, pair(w))), factorial(n) * (2 * w - Fraction(1, n)) ** n)
                w = 1 - part / (2 * n)
                self.assertEqual(number(even_sureness(n, pair(w))), 1 - 2 * (1 - w) ** n)


class OneSided(unittest.TestCase):
    def test_against_the_sum(self):
        rng = random.Random(9)
        for n in range(1, 9):
            for w in drawn_widths(rng, 15) + [Fraction(1, n), Fraction(1, 2 * n), Fraction(1, 10 ** 30), Fraction(1)]:
                if w > 0:
                    self.assertEqual(number(one_sided_sureness(n, pair(w))), one_sided_sum(n, w), (n, w))

    def test_against_both_bands(self):
        rng = random.Random(10)
        for n in range(1, 9):
            for w in drawn_widths(rng, 8) + [Fraction(0), Fraction(1)]:
                low, high = even_band(n, pair(w))
                told = one_sided_sureness(n, pair(w))
                self.assertTrue(is_told_fraction(told))
                self.assertEqual(told, band_sureness(((nil,) * (n + 1), high)))
                self.assertEqual(told, band_sureness((low, (one,) * (n + 1))))

    def test_the_ends(self):
        for n in range(1, 9):
            self.assertEqual(one_sided_sureness(n, nil), nil)
            self.assertEqual(one_sided_sureness(n, one), one)
        self.assertEqual(one_sided_sureness(1, third), third)


class EvenPieces(unittest.TestCase):
    def test_the_form(self):
        for n in range(1, 9):
            pieces = even_pieces(n)
            self.assertIs(type(pieces), tuple)
            self.assertEqual(pieces[0], (nil, (1, 2 * n), ()))
            self.assertEqual(pieces[-1][1], one)
            for start, end, numbers in pieces:
                self.assertLess(number(start), number(end))
                self.assertTrue(is_told_fraction(start) and is_told_fraction(end))
                self.assertEqual([(2 * n) % start[1], (2 * n) % end[1]], [0, 0])
                self.assertIs(type(numbers), tuple)
                self.assertTrue(all(is_told_fraction(a) for a in numbers))
                self.assertTrue(numbers == () or numbers[-1] != nil)
                self.assertLessEqual(len(numbers), n + 1)
            for piece, after in zip(pieces, pieces[1:]):
                self.assertEqual(piece[1], after[0])
                self.assertNotEqual(piece[2], after[2])

    def test_the_worths(self):
        for n in range(1, 9):
            for start, end, numbers in even_pieces(n):
                low, high = number(start), number(end)
                for part in (0, 1, Fraction(1, 2), Fraction(1, 3), Fraction(1, 7), Fraction(12, 13)):
                    width = low + part * (high - low)
                    self.assertEqual(worth(numbers, width), number(even_sureness(n, pair(width))), (n, width))

    def test_the_worths_beside_all_multiples(self):
        # Between neighbouring multiples a piece is one polynomial, however many it goes over.
        for n in range(1, 9):
            pieces = even_pieces(n)
            for k in range(4 * n + 1):
                width = Fraction(k, 4 * n)
                for start, end, numbers in pieces:
                    if number(start) <= width <= number(end):
                        self.assertEqual(worth(numbers, width), number(even_sureness(n, pair(width))))

    def test_the_first_and_the_last_polynomial(self):
        for n in range(1, 9):
            pieces = even_pieces(n)
            self.assertEqual(worth(pieces[-1][2], 1), 1)
            for w in (Fraction(5), Fraction(-2, 3)):
                first = factorial(n) * (2 * w - Fraction(1, n)) ** n
                self.assertEqual(worth(pieces[1][2], w), first)
                self.assertEqual(worth(pieces[-1][2], w), 2 * w - 1 if n == 1 else 1 - 2 * (1 - w) ** n)

    def test_one_draw(self):
        self.assertEqual(even_pieces(1), ((nil, half, ()), (half, one, ((-1, 1), (2, 1)))))


class EvenWidthNear(unittest.TestCase):
    def check(self, n, share, many):
        k, is_just = even_width_near(n, share, many)
        self.assertIs(type(k), int)
        self.assertIs(type(is_just), bool)
        wish = number(share)
        here = number(even_sureness(n, pair(Fraction(k, many))))
        self.assertLessEqual(here, wish)
        self.assertIs(is_just, here == wish)
        if k < many:
            self.assertGreater(number(even_sureness(n, pair(Fraction(k + 1, many)))), wish)
        return k, is_just

    def test_drawn_shares(self):
        rng = random.Random(11)
        for n in range(1, 9):
            for many in (1, 2, 3, 10, 97, 1000, 999999, 10 ** 6):
                for _ in range(3):
                    share = drawn_share(rng, 40)
                    if share[0] > 0:
                        self.check(n, share, many)

    def test_many_of_one(self):
        for n in range(1, 9):
            for share in ((1, 10 ** 399), half, (10 ** 399 - 1, 10 ** 399)):
                self.assertEqual(even_width_near(n, share, 1), (0, False))
            self.assertEqual(even_width_near(n, one, 1), (1, True))

    def test_just_on_a_width_and_beside_it(self):
        tiny = Fraction(1, 10 ** 60)
        for n in range(1, 9):
            for many in (2 * n, 4 * n, 30 * n):
                for k in range(many // (2 * n) + 1, many + 1):
                    share = number(even_sureness(n, pair(Fraction(k, many))))
                    self.assertEqual(even_width_near(n, pair(share), many), (k, True))
                    self.assertEqual(even_width_near(n, pair(share - tiny), many), (k - 1, False))
                    if share < 1:
                        self.assertEqual(even_width_near(n, pair(share + tiny), many), (k, False))

    def test_tiny_shares(self):
        # The least width is above 1 / (2 n), however small the share.
        for n in range(1, 9):
            for many in (2 * n, 14 * n, 10 ** 6):
                self.assertEqual(even_width_near(n, (1, 10 ** 399), many), (many // (2 * n), False))

    def test_the_whole(self):
        for n in range(1, 9):
            for many in (1, 2, 7, 999999, 10 ** 6):
                self.assertEqual(even_width_near(n, one, many), (many, True))

    def test_one_draw(self):
        # The sureness is 2 w - 1, so the least width is (1 + share) / 2.
        rng = random.Random(12)
        for _ in range(60):
            share, many = drawn_share(rng, 50), rng.randint(1, 200)
            if share[0] > 0:
                least = (1 + number(share)) / 2 * many
                self.assertEqual(even_width_near(1, share, many), (least // 1, least.denominator == 1))


class IsBand(unittest.TestCase):
    def test_that_bands_are_some(self):
        rng = random.Random(13)
        for n in range(1, 9):
            self.assertIs(is_band(drawn_band(rng, n)), True)
            self.assertIs(is_band(tuple(tuple(drawn_share(rng) for _ in range(n + 1)) for _ in range(2))), True)
        self.assertIs(is_band(((one, nil), (nil, nil))), True)
        self.assertIs(is_band(value=((nil, half), (half, one))), True)

    def test_that_nothing_else_is_one(self):
        for thing in odd_things() + deepest_things():
            self.assertIs(is_band(thing), False)
            for value in ((thing,), (thing, thing), (thing, (nil, one)), ((nil, one), thing), [thing, thing]):
                self.assertIs(is_band(value), False)


class WrongBands(unittest.TestCase):
    def wrong(self, band, index):
        self.assertIs(is_band(band), False)
        for function in (band_box, band_sureness):
            for call in (lambda: function(band), lambda: function(band=band)):
                with self.assertRaises(InvalidBand) as caught:
                    call()
                self.assertEqual(caught.exception.index, index, band)
                self.assertIsNot(type(caught.exception.index), bool)

    def test_no_pair_of_tuples(self):
        for thing in not_pairs_of_tuples():
            self.wrong(thing, None)

    def test_the_number_of_shares(self):
        for low in range(12):
            for high in range(12):
                band = ((nil,) * low, (one,) * high)
                if low == high and 2 <= low <= 9:
                    self.assertIs(is_band(band), True)
                else:
                    self.wrong(band, None)
        self.wrong(((nil,) * 300, (one,) * 300), None)
        # The form comes first, whatever stands within.
        self.wrong(((None,) * 10, (None,) * 10), None)
        self.wrong(((None, None), (nil, nil, nil)), None)
        self.wrong(((None,), (None,)), None)

    def test_what_is_no_share(self):
        for thing in not_shares():
            self.wrong(((thing, one), (nil, one)), 0)
            self.wrong(((nil, thing), (nil, one)), 0)
            self.wrong(((nil, one), (thing, one)), 1)
            self.wrong(((nil, one), (nil, thing)), 1)
            self.wrong(((thing, one), (thing, one)), 0)
            self.wrong(((nil,) * 8 + (thing,), (one,) * 9), 0)
            self.wrong(((nil,) * 9, (one,) * 4 + (thing,) + (one,) * 4), 1)


class WrongArguments(RaisingCase):
    def test_count(self):
        for thing in not_counts() + [9, 10, 10 ** 6, -10 ** 399]:
            self.raises_given(InvalidNumber, thing, even_pieces, thing)
            self.raises_given(InvalidNumber, thing, even_pieces, count=thing)
            for function in (even_band, even_sureness, one_sided_sureness):
                self.raises_given(InvalidNumber, thing, function, thing, half)
                self.raises_given(InvalidNumber, thing, function, width=None, count=thing)
            self.raises_given(InvalidNumber, thing, even_width_near, thing, half, 10)
            self.raises_given(InvalidNumber, thing, even_width_near, many=None, share=None, count=thing)

    def test_width(self):
        for thing in not_shares() + deepest_things():
            for function in (even_band, even_sureness, one_sided_sureness):
                self.raises_given(InvalidShare, thing, function, 3, thing)
                self.raises_given(InvalidShare, thing, function, width=thing, count=8)

    def test_share(self):
        for thing in not_shares() + deepest_things() + [nil]:
            self.raises_given(InvalidShare, thing, even_width_near, 3, thing, 10)
            self.raises_given(InvalidShare, thing, even_width_near, 3, thing, None)
            self.raises_given(InvalidShare, thing, even_width_near, many=0, share=thing, count=1)

    def test_many(self):
        for thing in not_counts() + [10 ** 6 + 1, -10 ** 6]:
            self.raises_given(InvalidNumber, thing, even_width_near, 3, half, thing)
            self.raises_given(InvalidNumber, thing, even_width_near, many=thing, count=3, share=one)

    def test_what_is_just_let(self):
        for count in (1, 8):
            self.assertEqual(len(even_band(count, nil)[0]), count + 1)
            self.assertEqual(even_width_near(count, (1, 10 ** 399), 1), (0, False))
            self.assertEqual(even_width_near(count, one, 10 ** 6), (10 ** 6, True))

    def test_that_the_first_wrong_argument_is_told(self):
        self.raises_given(InvalidNumber, True, even_sureness, True, (1, 0))
        self.raises_given(InvalidNumber, 0, even_width_near, 0, (2, 2), 0)
        self.raises_given(InvalidShare, nil, even_width_near, 1, nil, True)


class Calls(unittest.TestCase):
    def test_by_name_and_again(self):
        rng = random.Random(14)
        for _ in range(10):
            n, width, band = rng.randint(1, 8), drawn_share(rng), wide_band(rng, rng.randint(1, 8))
            kept = (tuple(band[0]), tuple(band[1]))
            self.assertEqual(band_box(band=band), band_box(band))
            self.assertEqual(band_sureness(band=band), band_sureness(band))
            self.assertEqual(band, kept)
            for function in (even_band, even_sureness, one_sided_sureness):
                self.assertEqual(function(width=width, count=n), function(n, width))
            self.assertEqual(even_pieces(count=n), even_pieces(n))
            told = even_width_near(many=100, share=half, count=n)
            self.assertEqual(told, even_width_near(n, half, 100))
