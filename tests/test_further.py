import random
import unittest
from fractions import Fraction
from itertools import combinations, permutations, product
from math import comb

from anydraws.errors import InvalidGroups, InvalidNumber, InvalidScores, InvalidStretch, InvalidWish
from anydraws.further import further_chance, further_groups, further_sureness, rank_chance, rank_needed
from tests.drawn import (
    all_throws, deepest_things, drawn_atoms, drawn_fraction, drawn_share, drawn_stretches, is_told_fraction,
    not_counts, not_fractions, not_numbers_from_nought, not_stretches, not_wishes, number, odd_things, pair,
)
from tests.raising import RaisingCase

nil, half, one, two, most = (0, 1), (1, 2), (1, 1), (2, 1), (9, 10)
TINY = Fraction(1, 10 ** 90)
BIG = 10 ** 399


def all_blocks(n, m):
    """For each order of n draws and m further ones the blocks in which the further ones lie."""
    found = []
    for places in combinations(range(n + m), m):
        found.append([place - k for k, place in enumerate(places)])
    return found


def how_many_within(blocks, i, j):
    return sum(1 for block in blocks if i <= block < j)


def told_term(n, m, g, r):
    """The chance of [21] that just r of m are within, all by its words."""
    if g == n + 1:
        return Fraction(1 if r == m else 0)
    return Fraction(comb(r + g - 1, r) * comb(m - r + n - g, m - r), comb(n + m, m))


def told_groups(n, m, groups):
    """The sum of [21] over all numbers of several stretches."""
    h = sum(j - i for i, j, _ in groups)
    total = 0
    for numbers in product(*[range(k, m + 1) for _, _, k in groups]):
        s = sum(numbers)
        if s > m or (h == n + 1 and s != m):
            continue
        term = 1 if h == n + 1 else comb(m - s + n - h, m - s)
        for r, (i, j, _) in zip(numbers, groups):
            term *= comb(r + j - i - 1, r)
        total += term
    return Fraction(total, comb(n + m, m))


def drawn_groups(rng, n, m, most_groups=3):
    many = rng.randint(1, min(most_groups, n + 1))
    left, groups = m, []
    for i, j in drawn_stretches(rng, n, many):
        k = rng.randint(0, min(left, rng.choice((1, 2, left))))
        left -= k
        groups.append((i, j, k))
    return tuple(groups)


class Examples(unittest.TestCase):
    def test_further(self):
        told = [further_chance(2, 1, (1, 2), 1), further_chance(3, 2, (1, 3), 2)]
        told += [further_sureness(3, 2, (1, 3), 1), further_groups(2, 2, ((0, 1, 1), (2, 3, 1)))]
        self.assertEqual(told, [(1, 3), (3, 10), (7, 10), (1, 6)])

    def test_ranks(self):
        told = [rank_chance((one, one, two), 1), rank_chance(((0, 1), one, two), 2)]
        told += [rank_needed(19, most), rank_needed(8, most)]
        self.assertEqual(told, [(2, 3), (2, 3), 18, None])

    def test_by_hand(self):
        self.assertEqual(further_chance(3, 2, (1, 3), 1), (2, 5))


class FurtherChance(unittest.TestCase):
    def test_against_all_orders(self):
        for n in range(1, 5):
            for m in range(0, 5):
                orders = all_blocks(n, m)
                for i in range(n + 1):
                    for j in range(i + 1, n + 2):
                        counts = [how_many_within(blocks, i, j) for blocks in orders]
                        for r in range(m + 1):
                            just = further_chance(n, m, (i, j), r)
                            least = further_sureness(n, m, (i, j), r)
                            self.assertTrue(is_told_fraction(just))
                            self.assertTrue(is_told_fraction(least))
                            self.assertEqual(number(just), Fraction(counts.count(r), len(orders)))
                            from_r = sum(1 for count in counts if count >= r)
                            self.assertEqual(number(least), Fraction(from_r, len(orders)))

    def test_against_the_sum_for_many_draws(self):
        rng = random.Random(1)
        for n in list(range(1, 40, 5)) + [40]:
            for m in (0, 1, 2, 7, 23, 39, 40):
                for i, j in drawn_stretches(rng, n, 1) + [(0, n + 1), (0, n), (n, n + 1)]:
                    terms = [told_term(n, m, j - i, r) for r in range(m + 1)]
                    self.assertEqual(sum(terms), 1)
                    told = [number(further_chance(n, m, (i, j), r)) for r in range(m + 1)]
                    self.assertEqual(told, terms)
                    for r in range(m + 1):
                        self.assertEqual(number(further_sureness(n, m, (i, j), r)), sum(terms[r:]))

    def test_that_only_the_length_of_the_stretch_counts(self):
        for i in range(8):
            self.assertEqual(further_chance(9, 6, (i, i + 3), 2), further_chance(9, 6, (0, 3), 2))
            self.assertEqual(further_sureness(9, 6, (i, i + 3), 2), further_sureness(9, 6, (0, 3), 2))

    def test_that_all_blocks_hold_all_further_draws(self):
        for n in (1, 2, 39, 40):
            for m in (0, 1, 40):
                for r in range(m + 1):
                    self.assertEqual(further_chance(n, m, (0, n + 1), r), one if r == m else nil)
                    self.assertEqual(further_sureness(n, m, (0, n + 1), r), one)

    def test_no_further_draws(self):
        for n in (1, 3, 40):
            for stretch in ((0, 1), (0, n), (n, n + 1), (0, n + 1)):
                self.assertEqual(further_chance(n, 0, stretch, 0), one)
                self.assertEqual(further_sureness(n, 0, stretch, 0), one)

    def test_one_further_draw(self):
        for n in (1, 5, 40):
            for j in range(1, n + 2):
                self.assertEqual(number(further_chance(n, 1, (0, j), 1)), Fraction(j, n + 1))
                self.assertEqual(number(further_chance(n, 1, (0, j), 0)), 1 - Fraction(j, n + 1))

    def test_against_atoms(self):
        rng = random.Random(2)
        for n, m in ((1, 1), (2, 1), (1, 2), (2, 2), (3, 2), (2, 3)):
            for _ in range(8):
                shares = [number(share) for share in drawn_atoms(rng, rng.randint(1, 3), 3)]
                i, j = drawn_stretches(rng, n, 1)[0]
                for k in range(m + 1):
                    kept = Fraction(0)
                    for draws, chance in all_throws(n, shares):
                        ends = [-1] + list(draws) + [len(shares)]
                        for others, there in all_throws(m, shares):
                            if sum(1 for other in others if ends[i] <= other <= ends[j]) >= k:
                                kept += chance * there
                    self.assertGreaterEqual(kept, number(further_sureness(n, m, (i, j), k)))


class FurtherGroups(unittest.TestCase):
    def check(self, n, m, groups, told_sum):
        told = further_groups(n, m, groups)
        self.assertTrue(is_told_fraction(told))
        self.assertEqual(number(told), told_sum, (n, m, groups))
        return told

    def counted(self, n, m, groups):
        orders = all_blocks(n, m)
        kept = [blocks for blocks in orders
                if all(how_many_within(blocks, i, j) >= k for i, j, k in groups)]
        return Fraction(len(kept), len(orders))

    def test_against_all_orders(self):
        rng = random.Random(3)
        seen = {}
        for n in range(1, 6):
            for m in range(0, 6):
                for _ in range(8):
                    groups = drawn_groups(rng, n, m)
                    told = self.check(n, m, groups, self.counted(n, m, groups))
                    seen[(len(groups), told == one)] = True
        self.assertEqual(len(seen), 6)

    def test_against_the_sum(self):
        rng = random.Random(4)
        for n, m in ((1, 40), (40, 1), (40, 40), (20, 33), (39, 12), (7, 25), (12, 7)):
            for _ in range(3):
                groups = drawn_groups(rng, n, m, 2 if m > 20 else 3)
                self.check(n, m, groups, told_groups(n, m, groups))
        groups = ((0, 13, 9), (13, 27, 14), (30, 41, 17))
        self.check(40, 40, groups, told_groups(40, 40, groups))

    def test_stretches_apart_and_side_by_side(self):
        for groups in (
            ((0, 1, 1), (1, 2, 1), (2, 3, 1)), ((0, 1, 1), (2, 3, 1), (4, 5, 1)), ((1, 2, 1), (2, 4, 2)),
            ((0, 2, 2), (4, 5, 1)), ((0, 1, 0), (1, 3, 2), (4, 5, 1)),
        ):
            self.check(4, 4, groups, self.counted(4, 4, groups))
            self.check(4, 4, groups, told_groups(4, 4, groups))

    def test_that_all_blocks_are_told(self):
        for n, groups in (
            (1, ((0, 1, 1), (1, 2, 2))), (2, ((0, 1, 1), (1, 2, 1), (2, 3, 1))), (3, ((0, 2, 2), (2, 4, 2))),
            (3, ((0, 2, 0), (2, 3, 1), (3, 4, 3))), (2, ((0, 3, 4),)), (4, ((0, 1, 0), (1, 5, 0))),
        ):
            for m in (4, 5):
                self.check(n, m, groups, self.counted(n, m, groups))
                self.check(n, m, groups, told_groups(n, m, groups))
        for m in (0, 1, 7, 40):
            self.assertEqual(further_groups(40, m, ((0, 41, m),)), one)
            self.assertEqual(further_groups(40, m, ((0, 20, 0), (20, 41, 0))), one)

    def test_numbers_of_nought(self):
        for n, m in ((1, 0), (3, 2), (40, 40)):
            self.assertEqual(further_groups(n, m, ((0, 1, 0),)), one)
            self.assertEqual(further_groups(n, m, ((0, 1, 0), (1, 2, 0))), one)
        beside = ((0, 2, 2), (2, 3, 0), (4, 6, 1))
        self.assertEqual(further_groups(6, 5, beside), further_groups(6, 5, (beside[0], beside[2])))

    def test_one_group(self):
        rng = random.Random(5)
        for n in (1, 2, 5, 17, 40):
            for m in (0, 1, 6, 40):
                for _ in range(4):
                    i, j = drawn_stretches(rng, n, 1)[0]
                    k = rng.randint(0, m)
                    self.assertEqual(further_groups(n, m, ((i, j, k),)), further_sureness(n, m, (i, j), k))

    def test_a_sum_of_just_the_further_draws(self):
        self.assertEqual(further_groups(2, 2, ((0, 1, 1), (1, 2, 1))), (1, 6))
        self.assertEqual(further_groups(3, 3, ((0, 1, 1), (1, 2, 1), (3, 4, 1))), (1, 20))
        self.assertEqual(further_groups(3, 0, ((0, 1, 0), (1, 2, 0), (3, 4, 0))), one)
        self.assertEqual(further_groups(40, 40, ((0, 1, 40),)), pair(Fraction(1, comb(80, 40))))


class RankChance(unittest.TestCase):
    def ordered(self, scores, k):
        """The chance by all orders of the scores."""
        kept, orders = 0, 0
        for order in permutations([number(score) for score in scores]):
            orders += 1
            kept += order[-1] <= sorted(order[:-1])[k - 1]
        return Fraction(kept, orders)

    def ranked(self, scores, k):
        """The chance by the last one alone, for many scores."""
        worths = [number(score) for score in scores]
        kept = 0
        for at in range(len(worths)):
            others = sorted(worths[:at] + worths[at + 1:])
            kept += worths[at] <= others[k - 1]
        return Fraction(kept, len(worths))

    def test_against_all_orders(self):
        rng = random.Random(6)
        seen = {}
        for _ in range(60):
            count = rng.randint(2, 6)
            scores = tuple(drawn_fraction(rng, -1, 1, rng.choice((1, 2, 4))) for _ in range(count))
            if rng.random() < 0.7:
                scores = tuple(rng.choice(scores[:3]) for _ in range(count))
            for k in range(1, count):
                told = rank_chance(scores, k)
                self.assertTrue(is_told_fraction(told))
                self.assertEqual(number(told), self.ordered(scores, k), (scores, k))
                self.assertGreaterEqual(number(told), Fraction(k, count))
                if len(set(scores)) == count:
                    self.assertEqual(number(told), Fraction(k, count))
                seen[number(told) > Fraction(k, count)] = True
        self.assertEqual(len(seen), 2)

    def test_up_to_twelve_scores(self):
        rng = random.Random(7)
        for count in range(2, 13):
            for alike in (1, 2, 3, 40):
                scores = tuple(pair(Fraction(rng.randint(0, alike), 3)) for _ in range(count))
                for k in range(1, count):
                    self.assertEqual(number(rank_chance(scores, k)), self.ranked(scores, k))
            unlike = tuple(pair(Fraction(k * k + 1, k + 1) - 4) for k in rng.sample(range(1, 60), count))
            self.assertEqual([number(rank_chance(unlike, k)) for k in range(1, count)],
                             [Fraction(k, count) for k in range(1, count)])
            self.assertEqual(rank_chance((half,) * count, 1), one)

    def test_any_order_and_any_rising_scale(self):
        scores = (nil, one, one, two, (-1, 2), two, (7, 3))
        rising = tuple(pair(number(score) ** 3 / 7 - 2) for score in scores)
        rng = random.Random(8)
        for k in range(1, 7):
            told = rank_chance(scores, k)
            self.assertEqual(rank_chance(rising, k), told)
            for _ in range(10):
                self.assertEqual(rank_chance(tuple(rng.sample(scores, 7)), k), told)

    def test_numbers_of_four_hundred_figures(self):
        near = ((BIG, BIG - 1), (BIG + 1, BIG), one, (-BIG, 1), (BIG, 1))
        for k in range(1, 5):
            self.assertEqual(number(rank_chance(near, k)), Fraction(k, 5))
        self.assertEqual(rank_chance(((1, BIG), (1, BIG)), 1), one)


class RankNeeded(unittest.TestCase):
    def needed(self, n, wish):
        found = [k for k in range(1, n + 1) if Fraction(k, n + 1) >= number(wish)]
        return found[0] if found else None

    def test_drawn_wishes(self):
        rng = random.Random(9)
        for n in range(1, 41):
            for _ in range(8):
                wish = drawn_share(rng, 50)
                if wish != nil:
                    self.assertEqual(rank_needed(n, wish), self.needed(n, wish), (n, wish))

    def test_wishes_just_at_a_rank(self):
        for n in range(1, 41):
            for k in range(1, n + 1):
                worth = Fraction(k, n + 1)
                self.assertEqual(rank_needed(n, pair(worth)), k)
                self.assertEqual(rank_needed(n, pair(worth - TINY)), k)
                self.assertEqual(rank_needed(n, pair(worth + TINY)), k + 1 if k < n else None)
                self.assertIs(type(rank_needed(n, pair(worth))), int)
            self.assertIsNone(rank_needed(n, one))
            self.assertEqual(rank_needed(n, (1, BIG)), 1)

    def test_that_the_rank_is_as_sure_as_needed(self):
        for n in range(1, 12):
            scores = tuple(pair(Fraction(k * k, 7)) for k in range(n + 1))
            for k in range(1, n + 1):
                needed = rank_needed(n, pair(Fraction(k, n + 1)))
                self.assertEqual(number(rank_chance(scores, needed)), Fraction(k, n + 1))


class WrongArguments(RaisingCase):
    def test_count(self):
        for thing in not_counts() + [41, 42, 10 ** 6]:
            for function in (further_chance, further_sureness):
                self.raises_given(InvalidNumber, thing, function, thing, 2, (0, 1), 1)
                self.raises_given(InvalidNumber, thing, function, number=None, stretch=None, further=None, count=thing)
            self.raises_given(InvalidNumber, thing, further_groups, thing, 2, ((0, 1, 1),))
            self.raises_given(InvalidNumber, thing, further_groups, groups=None, further=None, count=thing)
            self.raises_given(InvalidNumber, thing, rank_needed, thing, half)
            self.raises_given(InvalidNumber, thing, rank_needed, wish=None, count=thing)

    def test_further(self):
        for thing in not_numbers_from_nought() + [41, 42, 10 ** 6]:
            for function in (further_chance, further_sureness):
                self.raises_given(InvalidNumber, thing, function, 40, thing, (0, 1), 0)
                self.raises_given(InvalidNumber, thing, function, number=None, stretch=None, further=thing, count=1)
            self.raises_given(InvalidNumber, thing, further_groups, 3, thing, ((0, 1, 0),))
            self.raises_given(InvalidNumber, thing, further_groups, groups=None, further=thing, count=3)

    def test_what_is_just_let(self):
        for n in (1, 40):
            for m in (0, 1, 40):
                for r in (0, m):
                    self.assertEqual(number(further_chance(n, m, (0, 1), r)), told_term(n, m, 1, r))
                    self.assertEqual(further_sureness(n, m, (0, n + 1), r), one)
                self.assertEqual(further_groups(n, m, ((0, n + 1, m),)), one)
            self.assertEqual(rank_needed(n, (1, n + 1)), 1)

    def test_stretch(self):
        for n in (1, 2, 3, 39, 40):
            for thing in not_stretches(n):
                for function in (further_chance, further_sureness):
                    self.raises_given(InvalidStretch, thing, function, n, 2, thing, 1)
                    self.raises_given(InvalidStretch, thing, function, number=None, stretch=thing, further=0, count=n)

    def test_number(self):
        for m in (0, 1, 5, 39, 40):
            for thing in not_numbers_from_nought() + [m + 1, m + 2, 41]:
                for function in (further_chance, further_sureness):
                    self.raises_given(InvalidNumber, thing, function, 3, m, (0, 1), thing)
                    self.raises_given(InvalidNumber, thing, function, number=thing, stretch=(0, 4), further=m, count=3)
        for count in (2, 3, 12):
            scores = (half,) * count
            for thing in not_counts() + [count, count + 1]:
                self.raises_given(InvalidNumber, thing, rank_chance, scores, thing)
                self.raises_given(InvalidNumber, thing, rank_chance, number=thing, scores=scores)
            self.assertEqual(rank_chance(scores, count - 1), one)

    def test_scores(self):
        for thing in odd_things() + deepest_things():
            if type(thing) is not tuple or len(thing) < 2:
                self.raises_index(InvalidScores, None, rank_chance, thing, 1)
        for scores in ((), (one,), (None,), (half,) * 13, (None,) * 13, (half,) * 300, [half, half], {0: one, 1: one}):
            self.raises_index(InvalidScores, None, rank_chance, scores, 1)
            self.raises_index(InvalidScores, None, rank_chance, number=None, scores=scores)
        for thing in not_fractions() + deepest_things():
            self.raises_index(InvalidScores, 0, rank_chance, (thing, one), 1)
            self.raises_index(InvalidScores, 0, rank_chance, (thing, thing), 1)
            self.raises_index(InvalidScores, 1, rank_chance, (one, thing), 1)
            self.raises_index(InvalidScores, 11, rank_chance, (half,) * 11 + (thing,), 1)
            self.raises_index(InvalidScores, 2, rank_chance, number=None, scores=(one, one, thing, one, thing))

    def test_wish(self):
        for thing in not_wishes():
            self.raises_given(InvalidWish, thing, rank_needed, 3, thing)
            self.raises_given(InvalidWish, thing, rank_needed, wish=thing, count=40)

    def test_that_the_first_wrong_argument_is_told(self):
        backward = (1, 0)
        for function in (further_chance, further_sureness):
            self.raises_given(InvalidNumber, 0, function, 0, -1, (1, 1), -2)
            self.raises_given(InvalidNumber, -1, function, 1, -1, (1, 1), -2)
            self.raises_given(InvalidStretch, backward, function, 1, 0, backward, -2)
            self.raises_given(InvalidNumber, -2, function, 1, 0, (0, 1), -2)
        self.raises_given(InvalidNumber, 41, further_groups, 41, 41, ())
        self.raises_given(InvalidNumber, 42, further_groups, 40, 42, ())
        self.raises_index(InvalidScores, None, rank_chance, (), 0)
        self.raises_given(InvalidNumber, True, rank_needed, True, nil)


class WrongGroups(RaisingCase):
    def wrong(self, groups, index, n=5, m=4):
        self.raises_index(InvalidGroups, index, further_groups, n, m, groups)
        self.raises_index(InvalidGroups, index, further_groups, groups=groups, further=m, count=n)

    def test_no_tuple_of_one_to_three(self):
        for thing in odd_things() + deepest_things():
            if type(thing) is not tuple or len(thing) == 0:
                self.wrong(thing, None)
        side = tuple((k, k + 1, 0) for k in range(6))
        for groups in ((), side[:4], side[:5], (None,) * 4, (side[0],) * 300, [side[0]], list(side[:3]), {0: side[0]}):
            self.wrong(groups, None)
        for many in range(1, 4):
            self.assertEqual(further_groups(5, 4, side[:many]), one)

    def test_the_first_wrong_group(self):
        good = ((0, 1, 1), (1, 2, 1))
        for bad in odd_things() + deepest_things() + [
            (2, 3), (2, 3, 1, 1), ((2, 3), 1), [2, 3, 1], (3, 2, 1), (2, 2, 0), (2, 3, one), (2, 3, -1), (2, 3, half),
        ]:
            if type(bad) is tuple and [type(part) for part in bad] == [int] * 3 and bad[1] > bad[0]:
                if bad[2] >= 0 and bad[0] >= 0:
                    continue
            self.wrong((bad,), 0)
            self.wrong((bad,) + good, 0)
            self.wrong((good[0], bad, bad), 1)
            self.wrong(good + (bad,), 2)
            self.wrong((bad, bad, bad), 0)

    def test_stretches_and_numbers_of_groups(self):
        for n in (1, 3, 40):
            for thing in not_numbers_from_nought():
                self.wrong(((0, 1, thing),), 0, n)
                self.wrong(((0, 1, 0), (1, 2, thing)), 1, n)
            for thing in not_stretches(n):
                if type(thing) is tuple:
                    self.wrong((thing + (0,),), 0, n)
                    self.wrong(((0, 1, 0), thing + (0,)), 1, n)

    def test_groups_that_begin_ahead_of_an_end(self):
        self.wrong(((0, 2, 0), (1, 3, 0)), 1)
        self.wrong(((0, 3, 0), (1, 2, 0)), 1)
        self.wrong(((1, 2, 0), (0, 1, 0)), 1)
        self.wrong(((1, 2, 0), (1, 2, 0)), 1)
        self.wrong(((0, 1, 0), (2, 4, 0), (3, 5, 0)), 2)
        self.wrong(((0, 1, 0), (2, 4, 0), (1, 2, 0)), 2)
        self.wrong(((0, 6, 0), (5, 6, 0), None), 1)
        self.assertEqual(further_groups(5, 4, ((0, 2, 0), (2, 4, 0), (4, 6, 0))), one)

    def test_numbers_with_a_sum_above_the_further_draws(self):
        self.wrong(((0, 1, 5),), 0)
        self.wrong(((0, 1, 1),), 0, 5, 0)
        self.wrong(((0, 1, BIG),), 0)
        self.wrong(((0, 1, 2), (1, 2, 3)), 1)
        self.wrong(((0, 1, 4), (1, 2, 1), None), 1)
        self.wrong(((0, 1, 2), (1, 2, 2), (2, 3, 1)), 2)
        self.wrong(((0, 1, 0), (1, 2, 0), (2, 3, 5)), 2)
        self.wrong(((0, 1, 20), (1, 2, 21)), 1, 40, 40)
        for groups in (((0, 1, 4),), ((0, 1, 2), (1, 2, 2)), ((0, 1, 1), (1, 2, 2), (2, 3, 1)), ((0, 1, 0), (1, 2, 4))):
            self.assertEqual(number(further_groups(5, 4, groups)), told_groups(5, 4, groups))


class Calls(unittest.TestCase):
    def test_by_name_and_again(self):
        rng = random.Random(10)
        for _ in range(10):
            n, m = rng.randint(1, 40), rng.randint(0, 40)
            groups = drawn_groups(rng, n, m)
            kept = tuple(tuple(group) for group in groups)
            stretch, r = drawn_stretches(rng, n, 1)[0], rng.randint(0, m)
            scores = tuple(drawn_fraction(rng) for _ in range(rng.randint(2, 12)))
            told = further_chance(number=r, stretch=stretch, further=m, count=n)
            self.assertEqual(told, further_chance(n, m, stretch, r))
            told = further_sureness(number=r, stretch=stretch, further=m, count=n)
            self.assertEqual(told, further_sureness(n, m, stretch, r))
            self.assertEqual(further_groups(groups=groups, further=m, count=n), further_groups(n, m, kept))
            self.assertEqual(groups, kept)
            self.assertEqual(rank_chance(number=1, scores=scores), rank_chance(scores, 1))
            self.assertEqual(rank_needed(wish=half, count=n), rank_needed(n, half))
