"""That one chance is told alike in each of the ways in which the package tells it."""

import random
import unittest
from fractions import Fraction
from math import comb

from anydraws.bands import band_sureness, even_band, even_sureness, one_sided_sureness
from anydraws.boxes import box_chance, mirrored_box, plain_box, saying_of_box
from anydraws.centres import centre_sureness, low_sum, sum_counts
from anydraws.certificates import (
    certify_band, certify_closed, certify_further, certify_held, certify_least, certify_places,
)
from anydraws.checker import accepts
from anydraws.cuttings import block_chance
from anydraws.further import further_chance, further_groups, further_sureness, rank_chance, rank_needed
from anydraws.held import groups_sureness, held_sureness
from anydraws.places import place_sureness, places_box, places_sureness
from anydraws.sayings import is_possible, mirrored_saying, saying_chance
from anydraws.shifts import pair_counts, shift_sureness
from anydraws.steps import closed_chance, open_chance
from anydraws.words import (
    all_words, best_words, gap_of, gap_sureness, is_between, pair_count, set_power, set_sureness, stair_count,
    word_chance,
)
from tests.drawn import (
    drawn_atoms, drawn_inner_share, drawn_share, drawn_stretches, lots_up_to, nil, number, one, pair,
)

half = (1, 2)


def band_of(box):
    """The band whose box this is."""
    lows, highs = box
    return ((nil,) + lows, highs + (one,))


def words_within(n, m, groups):
    """The words of n draws, the a's, and m further ones, so many of which lie in each stretch."""
    found = []
    for word in all_words(n, m):
        blocks = [word[:k].count(0) for k, letter in enumerate(word) if letter == 1]
        if all(sum(1 for block in blocks if i <= block < j) >= number_of for i, j, number_of in groups):
            found.append(word)
    return tuple(found)


class StretchesThatHoldAPlace(unittest.TestCase):
    def test_by_place_claims_box_band_and_saying(self):
        rng = random.Random(1)
        for n in range(1, 9):
            for i in range(n + 1):
                for j in range(i + 1, n + 2):
                    share = drawn_inner_share(rng)
                    told = place_sureness(n, share, (i, j))
                    box = places_box(n, ((share, i, j),))
                    self.assertEqual(places_sureness(n, ((share, i, j),)), told)
                    self.assertEqual(places_sureness(n, ((share, i, j),) * 4), told)
                    self.assertEqual(box_chance(box), told)
                    self.assertEqual(box_chance(plain_box(box)), told)
                    self.assertEqual(box_chance(mirrored_box(box)), told)
                    self.assertEqual(band_sureness(band_of(box)), told)
                    saying = saying_of_box(box)
                    if saying is None:
                        self.assertTrue(n > 4 or (i, j) == (0, n + 1))
                    else:
                        self.assertEqual(saying_chance(saying), told)
                        self.assertEqual(saying_chance(mirrored_saying(saying)), told)
                        self.assertIs(is_possible(saying), told != nil)

    def test_by_shares_that_are_held(self):
        # What begins below all numbers holds the place of a share just where it holds the share.
        rng = random.Random(2)
        for n in list(range(1, 12)) + [40]:
            share = drawn_inner_share(rng)
            rest = pair(1 - number(share))
            for k in range(1, n + 1):
                told = place_sureness(n, share, (0, k))
                self.assertEqual(held_sureness(n, share, (0, k)), told)
                self.assertEqual(groups_sureness(n, ((0, k, share),)), told)
                told = place_sureness(n, share, (k, n + 1))
                self.assertEqual(held_sureness(n, rest, (k, n + 1)), told)
                self.assertEqual(groups_sureness(n, ((k, n + 1, rest),)), told)

    def test_by_two_claims(self):
        rng = random.Random(3)
        for n in range(2, 9):
            for _ in range(5):
                i, j = sorted(rng.sample(range(1, n + 1), 2))
                share = drawn_inner_share(rng)
                told = place_sureness(n, share, (i, j))
                self.assertEqual(places_sureness(n, ((share, i, n + 1), (share, 0, j))), told)
                claims = ((share, i, n + 1), (drawn_inner_share(rng, 9), 0, j))
                self.assertEqual(places_sureness(n, claims), band_sureness(band_of(places_box(n, claims))))

    def test_groups_and_claims_that_say_the_same(self):
        # U_i from p on, and 1 less U_j from q on: two groups, or the places of two shares.
        rng = random.Random(4)
        for n in range(1, 9):
            for _ in range(6):
                i = rng.randint(1, n)
                j = rng.randint(i, n)
                low = Fraction(rng.randint(1, 9), 20)
                rest = Fraction(rng.randint(1, 9), 20)
                told = groups_sureness(n, ((0, i, pair(low)), (j, n + 1, pair(rest))))
                claims = ((pair(low), 0, i), (pair(1 - rest), j, n + 1))
                self.assertEqual(places_sureness(n, claims), told)
                saying = saying_of_box(places_box(n, claims))
                if n <= 4:
                    self.assertEqual(saying_chance(saying), told)

    def test_the_atoms_leave_it_between_both_readings(self):
        rng = random.Random(5)
        for n in range(1, 5):
            for _ in range(10):
                share, (i, j) = drawn_inner_share(rng), drawn_stretches(rng, n, 1)[0]
                saying = saying_of_box(places_box(n, ((share, i, j),)))
                if saying is not None:
                    atoms = drawn_atoms(rng)
                    told = number(place_sureness(n, share, (i, j)))
                    self.assertGreaterEqual(number(closed_chance(saying, atoms)), told)
                    self.assertLessEqual(number(open_chance(saying, atoms)), told)

    def test_bands_of_one_width(self):
        rng = random.Random(6)
        for n in range(1, 5):
            for _ in range(6):
                width = drawn_share(rng, 16)
                low, high = even_band(n, width)
                self.assertEqual(band_sureness((low, high)), even_sureness(n, width))
                box = (low[1:], high[:-1])
                self.assertEqual(box_chance(box), even_sureness(n, width))
                saying = saying_of_box(box)
                if saying is not None:
                    self.assertEqual(saying_chance(saying), even_sureness(n, width))
                above = (nil,) * n, high[:-1]
                self.assertEqual(box_chance(above), one_sided_sureness(n, width))


class FurtherDraws(unittest.TestCase):
    def test_by_groups_blocks_and_words(self):
        for n, m in lots_up_to(7):
            for i, j in ((0, 1), (0, n), (n // 2, n // 2 + 1), (1, n + 1), (0, n + 1)):
                for r in range(m + 1):
                    told = further_sureness(n, m, (i, j), r)
                    self.assertEqual(further_groups(n, m, ((i, j, r),)), told)
                    blocks = [number(block_chance(n, m, j - i, within)) for within in range(r, m + 1)]
                    self.assertEqual(sum(blocks), number(told))
                    self.assertEqual(set_sureness(words_within(n, m, ((i, j, r),))), told)
                    self.assertEqual(block_chance(n, m, j - i, r), further_chance(n, m, (i, j), r))

    def test_several_stretches_by_words(self):
        rng = random.Random(7)
        for n, m in lots_up_to(9):
            for many in range(1, min(3, n + 1) + 1):
                groups = tuple((i, j, rng.randint(0, m // many)) for i, j in drawn_stretches(rng, n, many))
                words = words_within(n, m, groups)
                self.assertEqual(set_sureness(words), further_groups(n, m, groups))
                self.assertEqual(set_power(words, one), further_groups(n, m, groups))

    def test_one_further_draw_and_the_rank_of_the_last_one(self):
        for n in range(1, 12):
            scores = tuple((k, 1) for k in range(n + 1))
            for k in range(1, n + 1):
                told = further_sureness(n, 1, (0, k), 1)
                self.assertEqual(rank_chance(scores, k), told)
                self.assertEqual(rank_needed(n, told), k)
                self.assertEqual(block_chance(n, 1, k, 1), told)

    def test_that_all_blocks_are_as_likely_for_one_further_draw(self):
        for n in range(1, 8):
            for k in range(1, n + 1):
                self.assertEqual(number(further_chance(n, 1, (0, k), 1)), Fraction(k, n + 1))


class OrdersOfTwoLots(unittest.TestCase):
    def test_counts_of_pairs(self):
        for n, m in lots_up_to(10):
            counts = [pair_count(word) for word in all_words(n, m)]
            self.assertEqual(pair_counts(n, m), tuple(counts.count(k) for k in range(n * m + 1)))
            i, j = n * m // 3, n * m // 2 + 1
            words = tuple(word for word in all_words(n, m) if i <= pair_count(word) < j)
            self.assertEqual(set_sureness(words), shift_sureness(n, m, i, j))
            self.assertEqual(set_power(words, one), shift_sureness(n, m, i, j))

    def test_gaps_and_stairs(self):
        for n, m in lots_up_to(8):
            for gap in (half, (1, 3), (3, 4), one):
                words = tuple(word for word in all_words(n, m) if number(gap_of(word)) <= number(gap))
                told = gap_sureness(n, m, gap)
                if words:
                    self.assertEqual(set_sureness(words), told)
                else:
                    self.assertEqual(told, nil)
            lows = tuple(k // 3 for k in range(n + m + 1))
            highs = tuple(k // 2 + 1 for k in range(n + m + 1))
            kept = [word for word in all_words(n, m) if is_between(word, lows, highs)]
            self.assertEqual(stair_count(n, m, lows, highs), len(kept))

    def test_one_a_and_the_greatest_of_so_many(self):
        # An a above all b's, each the greatest of k draws: the last one of m k + 1 draws.
        for m in range(1, 10):
            for k in (1, 2, 3):
                word = (1,) * m + (0,)
                self.assertEqual(word_chance(word, (k, 1)), (1, m * k + 1))
        for m in (2, 3):
            self.assertEqual(further_chance(2 * m, 1, (2 * m, 2 * m + 1), 1), word_chance((1,) * m + (0,), (2, 1)))

    def test_the_best_set_of_all_others(self):
        for n, m in lots_up_to(6):
            for many in range(1, comb(n + m, m) + 1):
                told = best_words(n, m, many, (3, 2))
                self.assertEqual(number(set_sureness(told)), Fraction(many, comb(n + m, m)))
                self.assertGreaterEqual(number(set_power(told, (3, 2))), number(set_sureness(told)))

    def test_sums_of_sign_words(self):
        words = [((k >> 3) % 2, (k >> 2) % 2, (k >> 1) % 2, k % 2) for k in range(16)]
        sums = [low_sum(word) for word in words]
        self.assertEqual(sum_counts(4), tuple(sums.count(total) for total in range(11)))
        within = sum(1 for total in sums if 2 <= total < 7)
        self.assertEqual(number(centre_sureness(4, 2, 7)), Fraction(within, 16))


class ClaimsThatSayTheSame(unittest.TestCase):
    def test_one_stretch_in_several_claims(self):
        rng = random.Random(8)
        for n in range(1, 5):
            for k in range(1, n + 1):
                share = drawn_inner_share(rng, 6)
                told = place_sureness(n, share, (0, k))
                box = places_box(n, ((share, 0, k),))
                for wish in (told, half, one, (1, 100)):
                    reached = number(told) >= number(wish)
                    pairs = [
                        certify_places(n, ((share, 0, k),), wish), certify_held(n, ((0, k, share),), wish),
                        certify_band(band_of(box), wish), certify_least(saying_of_box(box), wish),
                    ]
                    kinds = [claim[0] for claim, _ in pairs]
                    self.assertEqual(kinds, ["places", "held", "sure band", "at least"] if reached else
                                     ["places less", "held less", "less sure", "less"])
                    self.assertTrue(all(accepts(claim, paper) for claim, paper in pairs))

    def test_further_draws_in_claims(self):
        for n, m in lots_up_to(6):
            for r in range(m + 1):
                told = further_sureness(n, m, (0, n), r)
                (claim, paper) = certify_further(n, m, ((0, n, r),), told)
                self.assertEqual(claim[0], "further")
                self.assertIs(accepts(claim, paper), True)
                # A b moved on stays behind all a's: these words are closed up.
                words = words_within(n, m, ((n, n + 1, r),))
                closed, _ = certify_closed(words)
                self.assertEqual(closed[0], "closed up")
