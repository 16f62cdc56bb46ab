import random
import unittest
from fractions import Fraction
from itertools import permutations
from math import comb

from anydraws.bands import band_box, even_band
from anydraws.boxes import box_chance, is_box, met_box, saying_of_box
from anydraws.errors import InvalidClaims, InvalidNumber, InvalidShare, InvalidStretch, InvalidWish
from anydraws.places import best_place, fewest_for_place, place_sureness, places_box, places_sureness
from anydraws.sayings import saying_chance
from tests.drawn import (
    all_throws, counted_chance, deepest_things, drawn_atoms, drawn_inner_share, drawn_share, is_told_fraction,
    not_counts, not_inner_shares, not_stretches, not_wishes, number, odd_things, pair,
)
from tests.raising import RaisingCase

nil, one, half, third, most = (0, 1), (1, 1), (1, 2), (1, 3), (9, 10)
TINY = Fraction(1, 10 ** 90)


def all_stretches(n):
    return [(i, j) for i in range(n + 1) for j in range(i + 1, n + 2)]


def chances_of_counts(n, q):
    """For each k the chance that just k of n evens are up to q."""
    return [comb(n, k) * q ** k * (1 - q) ** (n - k) for k in range(n + 1)]


def drawn_stretch(rng, n):
    i = rng.randint(0, n)
    return (i, rng.randint(i + 1, n + 1))


def drawn_claims(rng, n, many=None):
    shares = [drawn_inner_share(rng, 7) for _ in range(3)]
    return tuple((rng.choice(shares),) + drawn_stretch(rng, n) for _ in range(many or rng.randint(1, 4)))


def wide_claims(rng, n, many=None):
    """Claims that may well all hold: stretches around their shares."""
    claims = []
    for _ in range(many or rng.randint(1, 4)):
        q = drawn_inner_share(rng, 7)
        i = max(0, int(n * number(q)) - rng.randint(0, n))
        claims.append((q, i, min(n + 1, int(n * number(q)) + 1 + rng.randint(0, n))))
    return tuple(claims)


def counted_claims(n, claims):
    """The chance that for each claim from i up to j - 1 of the evens are up to its share."""
    ends = sorted({Fraction(0), Fraction(1)} | {number(q) for q, _, _ in claims})
    parts = [high - low for low, high in zip(ends, ends[1:])]
    total = Fraction(0)
    for places, chance in all_throws(n, parts):
        if all(i <= sum(ends[place + 1] <= number(q) for place in places) < j for q, i, j in claims):
            total += chance
    return total


def counted_for_atoms(claims, shares, n):
    """The chance that all claims hold for ALL places of their shares, for a distribution with these atoms."""
    worths = [number(share) for share in shares]
    up_to = [sum(worths[:k + 1]) for k in range(len(worths))]
    below = [sum(worths[:k]) for k in range(len(worths))]
    total = Fraction(0)
    for places, chance in all_throws(n, worths):
        draws = [-1] + list(places) + [len(worths)]
        kept = True
        for q, i, j in claims:
            first = min(k for k, reached in enumerate(up_to) if reached >= number(q))
            last = max(k for k, reached in enumerate(below) if reached <= number(q))
            kept = kept and draws[i] <= first and last <= draws[j]
        if kept:
            total += chance
    return total


class Examples(unittest.TestCase):
    def test_places(self):
        told = [place_sureness(3, half, (1, 3)), place_sureness(3, half, (0, 2)), place_sureness(2, third, (1, 3))]
        told += [best_place(5, half, most), fewest_for_place(half, (19, 20))]
        self.assertEqual(told, [(3, 4), (1, 2), (5, 9), (1, 5), 6])

    def test_claims(self):
        both = ((third, 1, 2), ((2, 3), 1, 2))
        told = [places_box(2, both), places_sureness(2, both), places_sureness(2, ((half, 0, 2),))]
        self.assertEqual(told, [(((0, 1), (2, 3)), ((1, 3), (1, 1))), (2, 9), (3, 4)])

    def test_by_hand(self):
        self.assertEqual([place_sureness(5, half, (1, 5)), place_sureness(5, half, (1, 4))], [(15, 16), (25, 32)])


class PlaceSureness(unittest.TestCase):
    def test_against_the_sum(self):
        rng = random.Random(1)
        for n in range(1, 41):
            share = drawn_inner_share(rng, 9)
            chances = chances_of_counts(n, number(share))
            for i, j in all_stretches(n):
                told = place_sureness(n, share, (i, j))
                self.assertTrue(is_told_fraction(told))
                self.assertEqual(number(told), sum(chances[i:j]), (n, share, i, j))

    def test_the_stretches_ahead_and_behind(self):
        rng = random.Random(2)
        for n in range(1, 41):
            share = drawn_inner_share(rng)
            for i, j in rng.sample(all_stretches(n), min(8, n)):
                total = number(place_sureness(n, share, (i, j)))
                total += number(place_sureness(n, share, (0, i))) if i > 0 else 0
                total += number(place_sureness(n, share, (j, n + 1))) if j <= n else 0
                self.assertEqual(total, 1)

    def test_the_stretch_of_all_numbers(self):
        for n in range(1, 41):
            self.assertEqual(place_sureness(n, third, (0, n + 1)), one)
            self.assertEqual(number(place_sureness(n, third, (0, n))), 1 - Fraction(1, 3) ** n)
            self.assertEqual(number(place_sureness(n, third, (1, n + 1))), 1 - Fraction(2, 3) ** n)
            if n > 1:
                told = 1 - Fraction(1, 3) ** n - Fraction(2, 3) ** n
                self.assertEqual(number(place_sureness(n, third, (1, n))), told)

    def test_that_it_grows_with_the_stretch(self):
        rng = random.Random(3)
        for n in range(1, 41, 3):
            share = drawn_inner_share(rng)
            told = {stretch: number(place_sureness(n, share, stretch)) for stretch in all_stretches(n)}
            for i, j in told:
                if j <= n:
                    self.assertGreater(told[i, j + 1], told[i, j])
                if i + 1 < j:
                    self.assertLess(told[i + 1, j], told[i, j])

    def test_the_mirrored_place(self):
        rng = random.Random(4)
        for n in range(1, 41):
            share, (i, j) = drawn_inner_share(rng), drawn_stretch(rng, n)
            other = pair(1 - number(share))
            self.assertEqual(place_sureness(n, other, (n + 1 - j, n + 1 - i)), place_sureness(n, share, (i, j)))

    def test_against_atoms(self):
        rng = random.Random(5)
        for n in range(1, 6):
            for _ in range(15):
                shares, (i, j) = drawn_atoms(rng, most=3), drawn_stretch(rng, n)
                # Among the shares those that are just reached have many places.
                reached = [pair(sum(number(share) for share in shares[:k])) for k in range(1, len(shares))]
                for share in reached + [drawn_inner_share(rng)]:
                    exact = counted_for_atoms(((share, i, j),), shares, n)
                    self.assertGreaterEqual(exact, number(place_sureness(n, share, (i, j))))

    def test_numbers_of_four_hundred_figures(self):
        big = 10 ** 399
        share = pair(Fraction(big // 3, big))
        chances = chances_of_counts(40, number(share))
        for i, j in ((0, 1), (7, 20), (0, 41), (40, 41)):
            self.assertEqual(number(place_sureness(40, share, (i, j))), sum(chances[i:j]))


class BestPlace(unittest.TestCase):
    def best(self, n, share, wish):
        """By looking at all stretches: the shortest, then the surest, then the one that begins first."""
        chances = chances_of_counts(n, number(share))
        enough = []
        for i, j in all_stretches(n):
            sureness = sum(chances[i:j])
            if sureness >= number(wish):
                enough.append((j - i, -sureness, i))
        length, _, i = min(enough)
        return (i, i + length)

    def check(self, n, share, wish):
        told = best_place(n, share, wish)
        self.assertEqual(told, self.best(n, share, wish), (n, share, wish))
        self.assertEqual([type(told)] + [type(x) for x in told], [tuple, int, int])
        return told

    def test_drawn_wishes(self):
        rng = random.Random(6)
        for n in list(range(1, 13)) + [25, 39, 40]:
            for _ in range(5):
                wish = drawn_share(rng, 30)
                if wish[0] > 0:
                    self.check(n, drawn_inner_share(rng), wish)

    def test_wishes_just_at_a_sureness(self):
        rng = random.Random(7)
        for n in range(1, 13):
            for _ in range(4):
                share, stretch = drawn_inner_share(rng), drawn_stretch(rng, n)
                sureness = number(place_sureness(n, share, stretch))
                told = [self.check(n, share, pair(wish)) for wish in (sureness - TINY, sureness)]
                self.assertLessEqual(told[1][1] - told[1][0], stretch[1] - stretch[0])
                if sureness < 1:
                    told.append(self.check(n, share, pair(sureness + TINY)))
                surest = max(sum(chances_of_counts(n, number(share))[i:j]) for i, j in all_stretches(n)
                             if j - i == stretch[1] - stretch[0])
                if surest == sureness < 1:
                    self.assertGreater(told[2][1] - told[2][0], told[1][1] - told[1][0])

    def test_ties(self):
        # For the middle a stretch and its mirror image are as sure: the one that begins first is told.
        for n in range(1, 41):
            for wish in ((1, 100), half, most, (999, 1000)):
                i, j = self.check(n, half, wish)
                self.assertLessEqual(i, n + 1 - j)
        self.assertEqual([best_place(1, half, half), best_place(1, half, (51, 100))], [(0, 1), (0, 2)])
        self.assertEqual(best_place(2, half, (3, 4)), (0, 2))
        self.assertEqual(best_place(2, third, (4, 9)), (0, 1))
        self.assertEqual(best_place(3, half, (3, 8)), (1, 2))

    def test_the_greatest_wish(self):
        for n in range(1, 41):
            self.assertEqual(best_place(n, third, one), (0, n + 1))
            self.assertEqual(best_place(n, (1, 10 ** 399), one), (0, n + 1))
            near = pair(1 - TINY)
            self.assertEqual(best_place(n, (1, 10 ** 399), near), (0, 1))
            self.assertEqual(best_place(n, (10 ** 399 - 1, 10 ** 399), near), (n, n + 1))

    def test_the_least_wish(self):
        for n in range(1, 20):
            self.assertEqual(best_place(n, third, (1, 10 ** 399)), self.best(n, third, (1, 10 ** 399)))


class FewestForPlace(unittest.TestCase):
    def fewest(self, share, wish):
        q = number(share)
        for n in range(2, 41):
            if 1 - q ** n - (1 - q) ** n >= number(wish):
                return n
        return None

    def test_drawn_wishes(self):
        rng = random.Random(8)
        seen = {}
        for _ in range(120):
            share, wish = drawn_inner_share(rng), drawn_share(rng, 40)
            if wish[0] > 0:
                told = fewest_for_place(share, wish)
                self.assertEqual(told, self.fewest(share, wish), (share, wish))
                seen[told] = True
        self.assertGreater(len(seen), 8)

    def test_wishes_just_at_a_sureness(self):
        for share in (half, third, (7, 9), (1, 40)):
            for n in range(2, 41):
                sureness = number(place_sureness(n, share, (1, n)))
                self.assertEqual(fewest_for_place(share, pair(sureness)), n)
                self.assertEqual(fewest_for_place(share, pair(sureness - TINY)), n)
                self.assertEqual(fewest_for_place(share, pair(sureness + TINY)), n + 1 if n < 40 else None)

    def test_that_there_are_none(self):
        for share in (half, third, (1, 10 ** 399), (10 ** 399 - 1, 10 ** 399)):
            self.assertIsNone(fewest_for_place(share, one))
        self.assertIsNone(fewest_for_place((1, 10 ** 399), half))
        self.assertIsNone(fewest_for_place((1, 100), most))

    def test_that_it_begins_at_two(self):
        for share in (half, third, (1, 10 ** 399)):
            self.assertEqual(fewest_for_place(share, (1, 10 ** 399)), 2)


class PlacesBox(unittest.TestCase):
    def test_against_its_words(self):
        rng = random.Random(9)
        for n in range(1, 9):
            for _ in range(25):
                claims = drawn_claims(rng, n)
                lows, highs = [], []
                for k in range(1, n + 1):
                    lows.append(pair(max([number(q) for q, _, j in claims if j == k], default=Fraction(0))))
                    highs.append(pair(min([number(q) for q, i, _ in claims if i == k], default=Fraction(1))))
                told = places_box(n, claims)
                self.assertEqual(told, (tuple(lows), tuple(highs)), claims)
                self.assertEqual([type(told), type(told[0]), type(told[1])], [tuple] * 3)
                self.assertTrue(is_box(told))

    def test_that_the_order_does_not_count(self):
        rng = random.Random(10)
        for n in range(1, 9):
            claims = drawn_claims(rng, n, 4)
            for other in permutations(claims):
                self.assertEqual(places_box(n, other), places_box(n, claims))
                self.assertEqual(places_sureness(n, other), places_sureness(n, claims))

    def test_shares_and_stretches_several_times(self):
        claims = ((third, 1, 3), (half, 1, 3), (half, 2, 3), (half, 1, 3))
        self.assertEqual(places_box(3, claims), ((nil, nil, half), (third, half, one)))
        self.assertEqual(places_box(3, claims[::-1]), ((nil, nil, half), (third, half, one)))
        self.assertEqual(places_box(3, claims[:1] * 4), places_box(3, claims[:1]))
        self.assertEqual(places_sureness(3, claims[:1] * 4), places_sureness(3, claims[:1]))

    def test_that_the_outer_ends_bind_nothing(self):
        for n in range(1, 9):
            free = ((nil,) * n, (one,) * n)
            self.assertEqual(places_box(n, ((half, 0, n + 1),)), free)
            self.assertEqual(places_box(n, ((half, 0, n + 1), (third, 0, n + 1))), free)
            self.assertEqual(places_sureness(n, ((half, 0, n + 1),)), one)
            self.assertEqual(places_box(n, ((half, 0, n),)), ((nil,) * (n - 1) + (half,), (one,) * n))
            self.assertEqual(places_box(n, ((half, 1, n + 1),)), ((nil,) * n, (half,) + (one,) * (n - 1)))

    def test_that_it_is_not_made_plain(self):
        claims = (((2, 3), 1, 2), (third, 3, 4))
        self.assertEqual(places_box(4, claims), ((nil, (2, 3), nil, third), ((2, 3), one, third, one)))
        self.assertEqual(places_sureness(4, claims), nil)


class PlacesSureness(unittest.TestCase):
    def test_against_counting(self):
        rng = random.Random(11)
        kinds = {True: 0, False: 0}
        for n in range(1, 9):
            for drawn in (drawn_claims, wide_claims):
                for _ in range(12):
                    claims = drawn(rng, n)
                    told = places_sureness(n, claims)
                    self.assertTrue(is_told_fraction(told))
                    self.assertEqual(number(told), counted_claims(n, claims), (n, claims))
                    lows, highs = places_box(n, claims)
                    self.assertEqual(number(told), counted_chance(lows, highs))
                    kinds[0 < told[0] < told[1]] += 1
        self.assertGreater(min(kinds.values()), 20)

    def test_that_it_is_the_chance_of_the_box(self):
        rng = random.Random(12)
        for n in range(1, 9):
            for _ in range(6):
                claims = wide_claims(rng, n)
                box = places_box(n, claims)
                self.assertEqual(places_sureness(n, claims), box_chance(box))
                if saying_of_box(box) is not None:
                    self.assertEqual(places_sureness(n, claims), saying_chance(saying_of_box(box)))

    def test_one_claim(self):
        rng = random.Random(13)
        for n in range(1, 9):
            share = drawn_inner_share(rng)
            for i, j in all_stretches(n):
                self.assertEqual(places_sureness(n, ((share, i, j),)), place_sureness(n, share, (i, j)))

    def test_against_atoms(self):
        rng = random.Random(14)
        for n in range(1, 6):
            for _ in range(12):
                claims, shares = wide_claims(rng, n), drawn_atoms(rng, most=3)
                self.assertGreaterEqual(counted_for_atoms(claims, shares, n), number(places_sureness(n, claims)))

    def test_together_with_a_band(self):
        rng = random.Random(15)
        for n in range(1, 9):
            claims, band = wide_claims(rng, n), even_band(n, (3, 4))
            both = number(box_chance(met_box(places_box(n, claims), band_box(band))))
            self.assertLessEqual(both, number(places_sureness(n, claims)))
            lows, highs = places_box(n, claims)
            other = band_box(band)
            lows = tuple(max(pair_of, key=number) for pair_of in zip(lows, other[0]))
            highs = tuple(min(pair_of, key=number) for pair_of in zip(highs, other[1]))
            self.assertEqual(both, counted_chance(lows, highs))


class WrongArguments(RaisingCase):
    def test_count(self):
        for thing in not_counts() + [41, 42, 10 ** 6]:
            self.raises_given(InvalidNumber, thing, place_sureness, thing, half, (0, 1))
            self.raises_given(InvalidNumber, thing, place_sureness, stretch=None, share=None, count=thing)
            self.raises_given(InvalidNumber, thing, best_place, thing, half, half)
            self.raises_given(InvalidNumber, thing, best_place, wish=None, share=None, count=thing)
        for thing in not_counts() + [9, 10, 40, 41]:
            for function in (places_box, places_sureness):
                self.raises_given(InvalidNumber, thing, function, thing, ((half, 0, 1),))
                self.raises_given(InvalidNumber, thing, function, claims=None, count=thing)

    def test_what_is_just_let(self):
        for n in (1, 8, 9, 40):
            self.assertEqual(place_sureness(n, half, (0, n + 1)), one)
            self.assertEqual(best_place(n, half, one), (0, n + 1))
        for n in (1, 8):
            self.assertEqual(places_sureness(n, ((half, 0, n + 1),) * 4), one)

    def test_share(self):
        for thing in not_inner_shares() + deepest_things():
            self.raises_given(InvalidShare, thing, place_sureness, 40, thing, (0, 1))
            self.raises_given(InvalidShare, thing, place_sureness, stretch=None, share=thing, count=1)
            self.raises_given(InvalidShare, thing, best_place, 3, thing, half)
            self.raises_given(InvalidShare, thing, best_place, wish=None, share=thing, count=3)
            self.raises_given(InvalidShare, thing, fewest_for_place, thing, half)
            self.raises_given(InvalidShare, thing, fewest_for_place, wish=None, share=thing)

    def test_stretch(self):
        for n in (1, 2, 3, 8, 9, 40):
            for thing in not_stretches(n):
                self.raises_given(InvalidStretch, thing, place_sureness, n, half, thing)
                self.raises_given(InvalidStretch, thing, place_sureness, stretch=thing, share=third, count=n)

    def test_wish(self):
        for thing in not_wishes():
            self.raises_given(InvalidWish, thing, best_place, 3, half, thing)
            self.raises_given(InvalidWish, thing, best_place, wish=thing, share=third, count=40)
            self.raises_given(InvalidWish, thing, fewest_for_place, half, thing)
            self.raises_given(InvalidWish, thing, fewest_for_place, wish=thing, share=third)

    def test_that_the_first_wrong_argument_is_told(self):
        self.raises_given(InvalidNumber, 0, place_sureness, 0, nil, (1, 1))
        self.raises_given(InvalidShare, nil, place_sureness, 1, nil, (1, 1))
        self.raises_given(InvalidNumber, 41, best_place, 41, one, nil)
        self.raises_given(InvalidShare, one, best_place, 40, one, nil)
        self.raises_given(InvalidShare, one, fewest_for_place, one, nil)


class WrongClaims(RaisingCase):
    def wrong(self, claims, index, n=3):
        for function in (places_box, places_sureness):
            self.raises_index(InvalidClaims, index, function, n, claims)
            self.raises_index(InvalidClaims, index, function, claims=claims, count=n)

    def test_no_tuple_of_one_to_four(self):
        good = (half, 1, 2)
        for thing in odd_things() + deepest_things():
            if type(thing) is not tuple or len(thing) == 0:
                self.wrong(thing, None)
        for claims in ((), (good,) * 5, (good,) * 300, (None,) * 5, [good], [good, good], {0: good}):
            self.wrong(claims, None)
        for many in range(1, 5):
            self.assertEqual(places_box(3, (good,) * many), places_box(3, (good,)))

    def test_the_first_wrong_claim(self):
        good = (half, 1, 2)
        for bad in odd_things() + deepest_things() + [
            (half, 1), (half, 1, 2, 3), (half, (1, 2)), [half, 1, 2], (1, 2, half), (half, 2, 1), (1, 2), half, (half,),
        ]:
            self.wrong((bad,), 0)
            self.wrong((bad, good), 0)
            self.wrong((good, bad, bad), 1)
            self.wrong((good, good, good, bad), 3)
            self.wrong((bad, bad, bad, bad), 0)

    def test_shares_and_stretches_of_claims(self):
        for n in (1, 3, 8):
            for thing in not_inner_shares() + deepest_things():
                self.wrong(((thing, 0, 1),), 0, n)
                self.wrong(((half, 0, 1), (thing, 0, 1), (thing, 0, 1)), 1, n)
            for thing in not_stretches(n):
                if type(thing) is tuple:
                    self.wrong(((half,) + thing,), 0, n)
                    self.wrong(((half, 0, n + 1), (half, 0, 1), (half,) + thing), 2, n)


class Calls(unittest.TestCase):
    def test_by_name_and_again(self):
        rng = random.Random(16)
        for _ in range(10):
            n, share, wish = rng.randint(1, 8), drawn_inner_share(rng), drawn_inner_share(rng)
            stretch, claims = drawn_stretch(rng, n), drawn_claims(rng, n)
            kept = tuple(tuple(claim) for claim in claims)
            told = place_sureness(stretch=stretch, share=share, count=n)
            self.assertEqual(told, place_sureness(n, share, stretch))
            self.assertEqual(best_place(wish=wish, share=share, count=n), best_place(n, share, wish))
            self.assertEqual(fewest_for_place(wish=wish, share=share), fewest_for_place(share, wish))
            self.assertEqual(places_box(claims=claims, count=n), places_box(n, claims))
            self.assertEqual(places_sureness(claims=claims, count=n), places_sureness(n, claims))
            self.assertEqual(claims, kept)
