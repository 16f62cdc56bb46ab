import random
import unittest
from fractions import Fraction
from itertools import product
from math import comb, factorial, prod

from anydraws.errors import InvalidGroups, InvalidNumber, InvalidShare, InvalidStretch, InvalidWish
from anydraws.held import best_held, fewest_for_held, groups_sureness, held_sureness
from anydraws.sayings import saying_chance
from tests.drawn import (
    all_throws, deepest_things, drawn_atoms, drawn_inner_share, drawn_share, drawn_stretches, is_told_fraction,
    not_counts, not_inner_shares, not_shares, not_stretches, not_wishes, number, odd_things, pair,
)
from tests.raising import RaisingCase

nil, one, half, third, most = (0, 1), (1, 1), (1, 2), (1, 3), (9, 10)
quarter = (1, 4)
TINY = Fraction(1, 10 ** 90)


def held_sum(n, p, blocks):
    """The sum of [19], p being a number."""
    return sum((comb(n, k) * p ** k * (1 - p) ** (n - k) for k in range(blocks)), Fraction(0))


def drawn_groups(rng, n, most_groups=3):
    many = rng.randint(1, min(most_groups, n + 1))
    weights = [rng.randint(0, 4) for _ in range(many)]
    whole = max(1, sum(weights) + rng.choice((0, 0, 1, 5, 9)))
    return tuple((i, j, pair(Fraction(w, whole))) for (i, j), w in zip(drawn_stretches(rng, n, many), weights))


def thrown_groups(n, groups):
    """The sum of [20], throw by throw: each throw to a group or elsewhere."""
    chances = [number(p) for _, _, p in groups]
    chances.append(1 - sum(chances))
    total = Fraction(0)
    for throws in product(range(len(chances)), repeat=n):
        if all(throws.count(g) < j - i for g, (i, j, _) in enumerate(groups)):
            total += prod(chances[throw] for throw in throws)
    return total


def summed_groups(n, groups):
    """The same sum over the counts, for many throws."""
    chances = [number(p) for _, _, p in groups]
    rest = 1 - sum(chances)
    total = Fraction(0)
    for counts in product(*[range(j - i) for i, j, _ in groups]):
        left = n - sum(counts)
        if left >= 0:
            ways = factorial(n) // (prod(factorial(k) for k in counts) * factorial(left))
            total += ways * prod((p ** k for p, k in zip(chances, counts)), start=Fraction(1)) * rest ** left
    return total


def rows_of_groups(n, groups):
    """The saying that the blocks of each stretch have its share at least, its rows of noughts left out."""
    rows = []
    for i, j, p in groups:
        row = tuple(pair(1 - number(p) if i <= k < j else -number(p)) for k in range(n + 1))
        if any(h != nil for h in row):
            rows.append(row)
    return tuple(rows)


def held_for_atoms(groups, shares, n):
    """The chance that all stretches hold their shares, for a distribution with these atoms."""
    worths = [number(share) for share in shares]
    total = Fraction(0)
    for places, chance in all_throws(n, worths):
        from_on = [0] + list(places) + [len(worths)]
        if all(sum(worths[from_on[i]:from_on[j] + 1]) >= number(p) for i, j, p in groups):
            total += chance
    return total


class Examples(unittest.TestCase):
    def test_held(self):
        told = [held_sureness(3, half, (1, 3)), held_sureness(3, half, (0, 3)), fewest_for_held(half, most)]
        told += [best_held(3, half, (7, 8)), groups_sureness(2, ((0, 1, (1, 4)), (1, 2, (1, 4))))]
        self.assertEqual(told, [(1, 2), (7, 8), 7, 3, (1, 4)])

    def test_by_hand(self):
        self.assertEqual([held_sureness(6, half, (1, 6)), held_sureness(7, half, (1, 7))], [(57, 64), (15, 16)])


class HeldSureness(unittest.TestCase):
    def test_against_the_sum_wherever_the_stretch_begins(self):
        rng = random.Random(1)
        for n in range(1, 41):
            share = drawn_inner_share(rng, 9)
            for blocks in range(1, n + 2):
                told = held_sureness(n, share, (0, blocks))
                self.assertTrue(is_told_fraction(told))
                self.assertEqual(number(told), held_sum(n, number(share), blocks))
                for i in range(n + 2 - blocks):
                    self.assertEqual(held_sureness(n, share, (i, i + blocks)), told)

    def test_that_all_blocks_hold_everything(self):
        for n in range(1, 41):
            for share in (half, (10 ** 399 - 1, 10 ** 399)):
                self.assertEqual(held_sureness(n, share, (0, n + 1)), one)
                self.assertEqual(number(held_sureness(n, share, (0, n))), 1 - number(share) ** n)
                self.assertEqual(number(held_sureness(n, share, (n, n + 1))), (1 - number(share)) ** n)

    def test_against_sayings(self):
        rng = random.Random(2)
        for n in range(1, 5):
            for _ in range(12):
                share = drawn_inner_share(rng)
                for i, j in drawn_stretches(rng, n, 1):
                    told = saying_chance(rows_of_groups(n, ((i, j, share),)))
                    self.assertEqual(held_sureness(n, share, (i, j)), told)

    def test_against_atoms(self):
        rng = random.Random(3)
        for n in range(1, 6):
            for _ in range(12):
                share, shares = drawn_inner_share(rng), drawn_atoms(rng, most=3)
                for i, j in drawn_stretches(rng, n, 1):
                    told = number(held_sureness(n, share, (i, j)))
                    self.assertGreaterEqual(held_for_atoms(((i, j, share),), shares, n), told)

    def test_numbers_of_four_hundred_figures(self):
        big = 10 ** 399
        p = Fraction(big // 7, big)
        for i, j in ((0, 1), (3, 20), (0, 41), (0, 40)):
            self.assertEqual(number(held_sureness(40, pair(p), (i, j))), held_sum(40, p, j - i))


class BestHeld(unittest.TestCase):
    def best(self, n, share, wish):
        return min(blocks for blocks in range(1, n + 2) if held_sum(n, number(share), blocks) >= number(wish))

    def check(self, n, share, wish):
        told = best_held(n, share, wish)
        self.assertEqual(told, self.best(n, share, wish), (n, share, wish))
        self.assertIs(type(told), int)
        return told

    def test_drawn_wishes(self):
        rng = random.Random(4)
        seen = {}
        for n in range(1, 41):
            for _ in range(5):
                wish = drawn_share(rng, 30)
                if wish[0] > 0:
                    seen[self.check(n, drawn_inner_share(rng), wish)] = True
        self.assertGreater(len(seen), 15)

    def test_wishes_just_at_a_sureness(self):
        for n in (1, 2, 3, 7, 12):
            for share in (half, third, (6, 7)):
                for blocks in range(1, n + 2):
                    sureness = held_sum(n, number(share), blocks)
                    self.assertEqual(self.check(n, share, pair(sureness)), blocks)
                    self.assertEqual(self.check(n, share, pair(sureness - TINY)), blocks)
                    if sureness < 1:
                        self.assertEqual(self.check(n, share, pair(sureness + TINY)), blocks + 1)

    def test_the_greatest_and_the_least_wish(self):
        for n in range(1, 41):
            for share in (half, (1, 10 ** 399), (10 ** 399 - 1, 10 ** 399)):
                self.assertEqual(best_held(n, share, one), n + 1)
            self.assertEqual(best_held(n, (1, 10 ** 399), pair(1 - TINY)), 1)
            self.assertEqual(best_held(n, (10 ** 399 - 1, 10 ** 399), pair(TINY)), n + 1)
            self.assertEqual(best_held(n, half, (1, 10 ** 399)), 1)


class FewestForHeld(unittest.TestCase):
    def fewest(self, share, wish):
        p = number(share)
        for n in range(2, 41):
            if 1 - n * p ** (n - 1) * (1 - p) - p ** n >= number(wish):
                return n
        return None

    def test_drawn_wishes(self):
        rng = random.Random(5)
        seen = {}
        for _ in range(120):
            share, wish = drawn_inner_share(rng), drawn_share(rng, 40)
            if wish[0] > 0:
                told = fewest_for_held(share, wish)
                self.assertEqual(told, self.fewest(share, wish), (share, wish))
                seen[told] = True
        self.assertGreater(len(seen), 10)
        self.assertIn(None, seen)

    def test_wishes_just_at_a_sureness(self):
        for share in (half, third, (7, 9), (39, 40)):
            for n in range(2, 41):
                sureness = number(held_sureness(n, share, (1, n)))
                self.assertEqual(fewest_for_held(share, pair(sureness)), n)
                self.assertEqual(fewest_for_held(share, pair(sureness - TINY)), n)
                self.assertEqual(fewest_for_held(share, pair(sureness + TINY)), n + 1 if n < 40 else None)

    def test_that_there_are_none(self):
        for share in (half, third, (1, 10 ** 399), (10 ** 399 - 1, 10 ** 399)):
            self.assertIsNone(fewest_for_held(share, one))
        self.assertIsNone(fewest_for_held((10 ** 399 - 1, 10 ** 399), half))
        self.assertIsNone(fewest_for_held((99, 100), most))

    def test_that_it_begins_at_two(self):
        for share in (half, third, (1, 10 ** 399)):
            self.assertEqual(fewest_for_held(share, (1, 10 ** 399)), 2)


class GroupsSureness(unittest.TestCase):
    def check(self, n, groups, told_sum):
        told = groups_sureness(n, groups)
        self.assertTrue(is_told_fraction(told))
        self.assertEqual(number(told), told_sum, (n, groups))
        return number(told)

    def test_against_all_throws(self):
        rng = random.Random(6)
        kinds = {True: 0, False: 0}
        for n in range(1, 6):
            for _ in range(30):
                groups = drawn_groups(rng, n)
                told = self.check(n, groups, thrown_groups(n, groups))
                kinds[0 < told < 1] += 1
        self.assertGreater(min(kinds.values()), 20)

    def test_many_draws_against_the_sum(self):
        rng = random.Random(7)
        for n in list(range(6, 14)) + [20, 30, 39, 40]:
            for _ in range(3):
                groups = drawn_groups(rng, n, 3 if n < 20 else 2)
                self.check(n, groups, summed_groups(n, groups))
        self.check(40, ((0, 13, third), (13, 27, third), (27, 41, third)), 0)
        groups = ((0, 13, quarter), (14, 27, quarter), (27, 40, quarter))
        self.check(40, groups, summed_groups(40, groups))

    def test_against_sayings(self):
        rng = random.Random(8)
        for n in range(1, 5):
            for _ in range(25):
                groups = drawn_groups(rng, n)
                rows = rows_of_groups(n, groups)
                if rows:
                    self.assertEqual(groups_sureness(n, groups), saying_chance(rows), groups)
                else:
                    self.assertEqual(groups_sureness(n, groups), one)

    def test_one_group(self):
        rng = random.Random(9)
        for n in range(1, 41):
            for _ in range(4):
                share = drawn_inner_share(rng)
                for i, j in drawn_stretches(rng, n, 1):
                    self.assertEqual(groups_sureness(n, ((i, j, share),)), held_sureness(n, share, (i, j)))

    def test_that_it_only_counts_how_many_blocks_there_are(self):
        apart = ((0, 2, quarter), (3, 4, third), (5, 7, (1, 6)))
        told = groups_sureness(6, apart)
        self.assertEqual(groups_sureness(6, ((0, 2, quarter), (2, 3, third), (3, 5, (1, 6)))), told)
        self.assertEqual(groups_sureness(6, ((1, 2, third), (2, 4, (1, 6)), (5, 7, quarter))), told)
        self.check(6, apart, summed_groups(6, apart))

    def test_shares_of_nought(self):
        for n in (1, 2, 5, 40):
            self.assertEqual(groups_sureness(n, ((0, 1, nil),)), one)
            self.assertEqual(groups_sureness(n, ((n, n + 1, nil),)), one)
        groups = ((0, 1, third), (1, 2, nil), (2, 4, half))
        self.assertEqual(groups_sureness(5, groups), groups_sureness(5, (groups[0], groups[2])))
        self.check(5, groups, thrown_groups(5, groups))
        self.assertEqual(groups_sureness(5, ((0, 1, nil), (1, 2, nil), (2, 3, nil))), one)

    def test_shares_of_one(self):
        for n in (1, 2, 5, 40):
            self.assertEqual(groups_sureness(n, ((0, n + 1, one),)), one)
            self.assertEqual(groups_sureness(n, ((0, n, one),)), nil)
            self.assertEqual(groups_sureness(n, ((1, n + 1, one),)), nil)
            self.assertEqual(groups_sureness(n, ((0, 1, one), (1, n + 1, nil))), nil)
            self.assertEqual(groups_sureness(n, ((0, n, nil), (n, n + 1, one))), nil)

    def test_a_sum_of_just_one(self):
        # All blocks together have just 1, so the groups would have to have just their shares.
        self.assertEqual(groups_sureness(3, ((0, 2, half), (2, 4, half))), nil)
        self.assertEqual(groups_sureness(3, ((0, 1, third), (1, 2, third), (2, 4, third))), nil)
        near = pair(Fraction(1, 2) - TINY)
        self.assertGreater(groups_sureness(3, ((0, 2, half), (2, 4, near)))[0], 0)
        self.assertEqual(groups_sureness(3, ((0, 1, nil), (1, 4, one))), nil)

    def test_against_atoms(self):
        rng = random.Random(10)
        for n in range(1, 6):
            for _ in range(12):
                groups, shares = drawn_groups(rng, n), drawn_atoms(rng, most=3)
                self.assertGreaterEqual(held_for_atoms(groups, shares, n), number(groups_sureness(n, groups)))

    def test_numbers_of_four_hundred_figures(self):
        big = 10 ** 399
        groups = tuple((2 * g, 2 * g + 1 + g, pair(Fraction(big // (3 + g), big + g))) for g in range(3))
        self.check(6, groups, thrown_groups(6, groups))


class WrongArguments(RaisingCase):
    def test_count(self):
        for thing in not_counts() + [41, 42, 10 ** 6]:
            self.raises_given(InvalidNumber, thing, held_sureness, thing, half, (0, 1))
            self.raises_given(InvalidNumber, thing, held_sureness, stretch=None, share=None, count=thing)
            self.raises_given(InvalidNumber, thing, best_held, thing, half, half)
            self.raises_given(InvalidNumber, thing, best_held, wish=None, share=None, count=thing)
            self.raises_given(InvalidNumber, thing, groups_sureness, thing, ((0, 1, half),))
            self.raises_given(InvalidNumber, thing, groups_sureness, groups=None, count=thing)

    def test_what_is_just_let(self):
        for n in (1, 8, 9, 40):
            self.assertEqual(held_sureness(n, half, (0, n + 1)), one)
            self.assertEqual(best_held(n, half, one), n + 1)
            self.assertEqual(groups_sureness(n, ((0, n + 1, one),)), one)

    def test_share(self):
        for thing in not_inner_shares() + deepest_things():
            self.raises_given(InvalidShare, thing, held_sureness, 40, thing, (0, 1))
            self.raises_given(InvalidShare, thing, held_sureness, stretch=None, share=thing, count=1)
            self.raises_given(InvalidShare, thing, best_held, 3, thing, half)
            self.raises_given(InvalidShare, thing, best_held, wish=None, share=thing, count=3)
            self.raises_given(InvalidShare, thing, fewest_for_held, thing, half)
            self.raises_given(InvalidShare, thing, fewest_for_held, wish=None, share=thing)

    def test_stretch(self):
        for n in (1, 2, 3, 8, 9, 40):
            for thing in not_stretches(n):
                self.raises_given(InvalidStretch, thing, held_sureness, n, half, thing)
                self.raises_given(InvalidStretch, thing, held_sureness, stretch=thing, share=third, count=n)

    def test_wish(self):
        for thing in not_wishes():
            self.raises_given(InvalidWish, thing, best_held, 3, half, thing)
            self.raises_given(InvalidWish, thing, best_held, wish=thing, share=third, count=40)
            self.raises_given(InvalidWish, thing, fewest_for_held, half, thing)
            self.raises_given(InvalidWish, thing, fewest_for_held, wish=thing, share=third)

    def test_that_the_first_wrong_argument_is_told(self):
        self.raises_given(InvalidNumber, 0, held_sureness, 0, nil, (1, 1))
        self.raises_given(InvalidShare, nil, held_sureness, 1, nil, (1, 1))
        self.raises_given(InvalidNumber, 41, best_held, 41, one, nil)
        self.raises_given(InvalidShare, one, best_held, 40, one, nil)
        self.raises_given(InvalidShare, one, fewest_for_held, one, nil)
        self.raises_given(InvalidNumber, True, groups_sureness, True, ())


class WrongGroups(RaisingCase):
    def wrong(self, groups, index, n=5):
        self.raises_index(InvalidGroups, index, groups_sureness, n, groups)
        self.raises_index(InvalidGroups, index, groups_sureness, groups=groups, count=n)

    def test_no_tuple_of_one_to_three(self):
        for thing in odd_things() + deepest_things():
            if type(thing) is not tuple or len(thing) == 0:
                self.wrong(thing, None)
        side = tuple((k, k + 1, nil) for k in range(6))
        for groups in ((), side[:4], side[:5], (None,) * 4, (side[0],) * 300, [side[0]], list(side[:3]), {0: side[0]}):
            self.wrong(groups, None)
        for many in range(1, 4):
            self.assertEqual(groups_sureness(5, side[:many]), one)

    def test_the_first_wrong_group(self):
        good = ((0, 1, quarter), (1, 2, quarter))
        for bad in odd_things() + deepest_things() + [
            (2, 3), (2, 3, quarter, quarter), ((2, 3), quarter), [2, 3, quarter], (quarter, 2, 3), (3, 2, quarter),
            (2, 2, nil),
        ]:
            self.wrong((bad,), 0)
            self.wrong((bad,) + good, 0)
            self.wrong((good[0], bad, bad), 1)
            self.wrong(good + (bad,), 2)
            self.wrong((bad, bad, bad), 0)

    def test_stretches_and_shares_of_groups(self):
        for n in (1, 3, 40):
            for thing in not_shares() + deepest_things():
                self.wrong(((0, 1, thing),), 0, n)
                self.wrong(((0, 1, nil), (1, 2, thing)), 1, n)
            for thing in not_stretches(n):
                if type(thing) is tuple:
                    self.wrong((thing + (nil,),), 0, n)
                    self.wrong(((0, 1, nil), thing + (nil,)), 1, n)

    def test_groups_that_begin_ahead_of_an_end(self):
        self.wrong(((0, 2, nil), (1, 3, nil)), 1)
        self.wrong(((0, 3, nil), (1, 2, nil)), 1)
        self.wrong(((1, 2, nil), (0, 1, nil)), 1)
        self.wrong(((1, 2, nil), (1, 2, nil)), 1)
        self.wrong(((0, 1, nil), (2, 4, nil), (3, 5, nil)), 2)
        self.wrong(((0, 1, nil), (2, 4, nil), (1, 2, nil)), 2)
        self.wrong(((0, 6, nil), (5, 6, nil), None), 1)
        self.assertEqual(groups_sureness(5, ((0, 2, nil), (2, 4, nil), (4, 6, nil))), one)
        self.assertEqual(groups_sureness(5, ((1, 2, nil), (4, 5, nil), (5, 6, nil))), one)

    def test_shares_with_a_sum_above_one(self):
        above = pair(Fraction(1, 2) + TINY)
        self.wrong(((0, 1, half), (1, 2, above)), 1)
        self.wrong(((0, 1, one), (1, 2, pair(TINY))), 1)
        self.wrong(((0, 1, third), (1, 2, third), (2, 3, pair(Fraction(1, 3) + TINY))), 2)
        self.wrong(((0, 1, half), (1, 2, above), None), 1)
        self.wrong(((0, 1, half), (1, 2, half), (2, 3, (1, 10 ** 399))), 2)
        self.wrong(((0, 1, one), (1, 2, one), (2, 3, one)), 1)
        self.wrong(((0, 1, pair(1 + TINY)),), 0)
        thirds = ((0, 1, third), (1, 2, third), (2, 3, third))
        for groups in (((0, 1, half), (1, 2, half)), thirds, ((0, 1, one), (1, 2, nil))):
            self.assertEqual(number(groups_sureness(5, groups)), thrown_groups(5, groups))


class Calls(unittest.TestCase):
    def test_by_name_and_again(self):
        rng = random.Random(11)
        for _ in range(10):
            n, share, wish = rng.randint(1, 40), drawn_inner_share(rng), drawn_inner_share(rng)
            groups = drawn_groups(rng, n)
            kept = tuple(tuple(group) for group in groups)
            stretch = drawn_stretches(rng, n, 1)[0]
            told = held_sureness(stretch=stretch, share=share, count=n)
            self.assertEqual(told, held_sureness(n, share, stretch))
            self.assertEqual(best_held(wish=wish, share=share, count=n), best_held(n, share, wish))
            self.assertEqual(fewest_for_held(wish=wish, share=share), fewest_for_held(share, wish))
            self.assertEqual(groups_sureness(groups=groups, count=n), groups_sureness(n, kept))
            self.assertEqual(groups, kept)
