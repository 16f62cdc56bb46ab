import random
import unittest
from fractions import Fraction
from itertools import product
from math import comb

from anydraws.errors import InvalidNumber, InvalidShare, InvalidStair, InvalidValues, InvalidWord, NotApart
from anydraws.words import (
    all_words, gap_of, gap_sureness, is_between, is_word, pair_count, rank_sum, stair_count, word_of,
)
from tests.drawn import (
    all_throws, deepest_things, drawn_atoms, drawn_fraction, drawn_share, is_told_fraction, lots_up_to, not_counts,
    not_fractions, not_shares, not_words, number, odd_things, own_words, pair,
)
from tests.raising import RaisingCase

nil, half, one, two, three = (0, 1), (1, 2), (1, 1), (2, 1), (3, 1)
TINY = Fraction(1, 10 ** 90)
BIG = 10 ** 399


def own_gap(word):
    n, m = word.count(0), word.count(1)
    apart = [abs(Fraction(word[:k].count(0), n) - Fraction(word[:k].count(1), m)) for k in range(len(word) + 1)]
    return max(apart)


def lies_between(word, lows, highs):
    return all(lows[k] <= sum(word[:k]) <= highs[k] for k in range(len(word) + 1))


def gap_bounds(n, m, gap):
    """Stairs for a gap, each by its own place: one that leaves none where none is let."""
    lows, highs = [], []
    for k in range(n + m + 1):
        let = [b for b in range(-20, 21) if abs(Fraction(k - b, n) - Fraction(b, m)) <= gap]
        lows.append(min(let, default=5))
        highs.append(max(let, default=-5))
    return tuple(lows), tuple(highs)


class Examples(unittest.TestCase):
    def test_words(self):
        told = [all_words(1, 2), is_word((0, 0)), word_of((two,), (one, three)), pair_count((0, 1, 1))]
        told += [rank_sum((0, 1, 1)), gap_of((0, 1, 1)), gap_of((1, 0, 1)), gap_sureness(1, 2, half)]
        self.assertEqual(told, [((0, 1, 1), (1, 0, 1), (1, 1, 0)), False, (1, 0, 1), 2, 5, (1, 1), (1, 2), (1, 3)])

    def test_stairs(self):
        self.assertIs(is_between((1, 1, 0), (0, 0, 1, 2), (0, 1, 1, 2)), False)
        self.assertEqual(stair_count(1, 2, (0, 0, 1, 2), (0, 1, 1, 2)), 2)

    def test_not_apart(self):
        with self.assertRaises(NotApart):
            word_of((one,), (one, two))


class IsWord(unittest.TestCase):
    def test_all_of_up_to_ten_letters(self):
        for letters in range(12):
            for word in product((0, 1), repeat=letters):
                self.assertIs(is_word(word), 0 in word and 1 in word and letters <= 10)

    def test_whatever_it_is(self):
        for thing in not_words():
            self.assertIs(is_word(thing), False)
            self.assertIs(is_word(value=thing), False)
            if type(thing) is not int:
                self.assertIs(is_word((0, 1, thing)), False)
        self.assertIs(is_word(value=(0, 1)), True)


class AllWords(unittest.TestCase):
    def test_against_a_list(self):
        for n, m in lots_up_to(10):
            told = all_words(n, m)
            self.assertIs(type(told), tuple)
            self.assertEqual(list(told), own_words(n, m))
            self.assertEqual(len(told), comb(n + m, m))
            self.assertTrue(all(is_word(word) for word in told))

    def test_what_is_just_let(self):
        self.assertEqual(len(all_words(9, 1)), 10)
        self.assertEqual(len(all_words(1, 9)), 10)
        self.assertEqual(len(all_words(5, 5)), 252)
        self.assertEqual(all_words(1, 1), ((0, 1), (1, 0)))


class WordOf(unittest.TestCase):
    def test_drawn_values(self):
        rng = random.Random(1)
        for n, m in lots_up_to(10):
            while True:
                values = [drawn_fraction(rng, -3, 3, 7) for _ in range(n + m)]
                first, second = tuple(values[:n]), tuple(values[n:])
                if not set(first) & set(second):
                    break
            order = sorted([(number(value), 0) for value in first] + [(number(value), 1) for value in second])
            told = word_of(first, second)
            self.assertIs(is_word(told), True)
            self.assertEqual(told, tuple(letter for _, letter in order))
            shuffled = tuple(rng.sample(first, n)), tuple(rng.sample(second, m))
            self.assertEqual(word_of(*shuffled), told)
            self.assertEqual(word_of(second=second, first=first), told)

    def test_like_values_of_one_lot(self):
        self.assertEqual(word_of((one, one, nil), (half, half)), (0, 1, 1, 0, 0))
        self.assertEqual(word_of((one,) * 5, (two,) * 5), (0,) * 5 + (1,) * 5)

    def test_that_an_a_and_a_b_are_the_same(self):
        for first, second in (
            ((one,), (one,)), ((nil, one), (two, nil)), ((half,) * 5, (half,) * 5), (((BIG, 7),), (one, (BIG, 7))),
            ((one,) * 9, (one,)), ((one,), (two,) * 8 + (one,)),
        ):
            with self.assertRaises(NotApart):
                word_of(first, second)
            with self.assertRaises(NotApart):
                word_of(second=second, first=first)

    def test_values_just_apart(self):
        above = pair(1 + Fraction(1, BIG))
        self.assertEqual(word_of((one,), (above,)), (0, 1))
        self.assertEqual(word_of((above,), (one,)), (1, 0))
        values = [pair(Fraction(BIG + 7 * k, BIG - k)) for k in range(10)]
        self.assertEqual(word_of(tuple(values[::2]), tuple(values[1::2])), (0, 1) * 5)


class Counts(unittest.TestCase):
    def test_pairs_and_places(self):
        for n, m in lots_up_to(10):
            counts = []
            for word in own_words(n, m):
                pairs = sum(1 for j in range(n + m) for i in range(j) if (word[i], word[j]) == (0, 1))
                told = pair_count(word)
                self.assertIs(type(told), int)
                self.assertEqual(told, pairs)
                self.assertEqual(rank_sum(word=word), sum(k for k, letter in enumerate(word, 1) if letter == 1))
                self.assertEqual(rank_sum(word), pairs + m * (m + 1) // 2)
                counts.append(told)
            how_often = [counts.count(k) for k in range(n * m + 1)]
            self.assertEqual(how_often, how_often[::-1])
            middle = how_often[:n * m // 2 + 1]
            self.assertEqual(middle, sorted(middle))

    def test_the_ends(self):
        self.assertEqual([pair_count((0, 0, 1, 1, 1)), pair_count((1, 1, 1, 0, 0))], [6, 0])
        self.assertEqual([rank_sum((0, 0, 1, 1, 1)), rank_sum((1, 1, 1, 0, 0))], [12, 6])
        self.assertEqual(pair_count(word=(0, 1, 0, 1)), 3)


class Stairs(unittest.TestCase):
    def drawn_stairs(self, rng, n, m, spread):
        lows = tuple(k * m // (n + m) - rng.randint(-spread, 2 * spread) for k in range(n + m + 1))
        highs = tuple(k * m // (n + m) + rng.randint(-spread, 2 * spread) for k in range(n + m + 1))
        return lows, highs

    def check(self, n, m, lows, highs):
        kept = 0
        for word in own_words(n, m):
            told = is_between(word, lows, highs)
            self.assertIs(told, lies_between(word, lows, highs))
            kept += told
        told = stair_count(n, m, lows, highs)
        self.assertIs(type(told), int)
        self.assertEqual(told, kept, (n, m, lows, highs))
        return kept

    def test_any_whole_numbers(self):
        rng = random.Random(2)
        seen = {}
        for n, m in lots_up_to(10):
            if comb(n + m, m) <= 130:
                for spread in (0, 1, 1, 2, 3):
                    kept = self.check(n, m, *self.drawn_stairs(rng, n, m, spread))
                    seen[0 < kept < comb(n + m, m)] = True
                self.check(n, m, *[tuple(rng.randint(-2, m + 2) for _ in range(n + m + 1)) for _ in range(2)])
        self.assertEqual(len(seen), 2)

    def test_each_end_of_each_step(self):
        # One step at a time: the number of b's among the first letters at a place, and no other.
        for n, m in ((2, 3), (3, 2), (1, 4)):
            wide = (-BIG,) * (n + m + 1), (BIG,) * (n + m + 1)
            self.assertEqual(self.check(n, m, *wide), comb(n + m, m))
            for k in range(n + m + 1):
                for step in range(-1, m + 2):
                    lows = wide[0][:k] + (step,) + wide[0][k + 1:]
                    highs = wide[1][:k] + (step,) + wide[1][k + 1:]
                    self.check(n, m, lows, wide[1])
                    self.check(n, m, wide[0], highs)
                    here = comb(k, step) * comb(n + m - k, m - step) if 0 <= step <= m and k - step <= n else 0
                    self.assertEqual(self.check(n, m, lows, highs), here)

    def test_lows_above_highs(self):
        self.assertEqual(self.check(1, 1, (0, 1, 0), (0, 0, 1)), 0)
        self.assertEqual(self.check(2, 2, (0, 0, 2, 0, 0), (2, 2, 1, 2, 2)), 0)
        self.assertEqual(self.check(2, 2, (1, 0, 0, 0, 0), (2, 2, 2, 2, 2)), 0)
        self.assertEqual(self.check(2, 2, (0, 0, 0, 0, 0), (2, 2, 2, 2, 1)), 0)
        self.assertEqual(self.check(2, 2, (0, 0, 0, 0, 2), (0, 2, 2, 2, 2)), 6)

    def test_by_name(self):
        lows, highs = (0, 0, 1, 2), (0, 1, 1, 2)
        self.assertIs(is_between(highs=highs, lows=lows, word=(0, 1, 1)), True)
        self.assertEqual(stair_count(highs=highs, lows=lows, m=2, n=1), 2)


class Gaps(unittest.TestCase):
    def test_against_the_definition(self):
        for n, m in lots_up_to(10):
            for word in own_words(n, m):
                told = gap_of(word)
                self.assertTrue(is_told_fraction(told))
                self.assertEqual(number(told), own_gap(word))
        self.assertEqual(gap_of(word=(0, 1, 1, 0)), half)

    def test_the_sureness_against_all_words_and_stairs(self):
        rng = random.Random(3)
        for n, m in lots_up_to(10):
            gaps = [own_gap(word) for word in own_words(n, m)]
            told_gaps = sorted(set(gaps))
            asked = [Fraction(0), Fraction(1)] + [number(drawn_share(rng, 30)) for _ in range(3)]
            for gap in told_gaps:
                asked += [gap, gap - TINY]
                asked += [gap + TINY] if gap < 1 else []
            for gap in asked:
                told = gap_sureness(n, m, pair(gap))
                self.assertTrue(is_told_fraction(told))
                kept = sum(1 for other in gaps if other <= gap)
                self.assertEqual(number(told), Fraction(kept, len(gaps)))
                self.assertEqual(stair_count(n, m, *gap_bounds(n, m, gap)), kept)

    def test_the_ends(self):
        for n, m in lots_up_to(10):
            self.assertEqual(gap_sureness(n, m, one), one)
            self.assertEqual(gap_sureness(gap=nil, m=m, n=n), nil)
            self.assertEqual(number(gap_sureness(n, m, pair(1 - TINY))), 1 - Fraction(2, comb(n + m, m)))

    def test_against_atoms(self):
        rng = random.Random(4)
        for n, m in ((1, 1), (1, 2), (2, 1), (2, 2), (3, 2)):
            for _ in range(6):
                shares = [number(share) for share in drawn_atoms(rng, rng.randint(1, 3), 3)]
                gap = Fraction(rng.randint(0, n * m), n * m)
                kept = Fraction(0)
                for firsts, chance in all_throws(n, shares):
                    for seconds, there in all_throws(m, shares):
                        apart = [abs(Fraction(sum(1 for k in firsts if k <= x), n)
                                     - Fraction(sum(1 for k in seconds if k <= x), m)) for x in range(len(shares))]
                        kept += chance * there if max(apart) <= gap else 0
                self.assertGreaterEqual(kept, number(gap_sureness(n, m, pair(gap))))


class WrongNumbers(RaisingCase):
    def calls(self):
        return [(all_words, {}), (stair_count, {"lows": None, "highs": None}), (gap_sureness, {"gap": None})]

    def test_n(self):
        for thing in not_counts() + [10, 11, 10 ** 6]:
            for function, more in self.calls():
                self.raises_given(InvalidNumber, thing, function, thing, 1, *more.values())
                self.raises_given(InvalidNumber, thing, function, m=None, n=thing, **more)

    def test_m(self):
        for n in range(1, 10):
            for thing in not_counts() + [11 - n, 12 - n, 10, 11, 10 ** 6]:
                for function, more in self.calls():
                    self.raises_given(InvalidNumber, thing, function, n, thing, *more.values())
                    self.raises_given(InvalidNumber, thing, function, m=thing, n=n, **more)
            self.assertEqual(len(all_words(n, 10 - n)), comb(10, n))

    def test_gap(self):
        for thing in not_shares() + deepest_things():
            self.raises_given(InvalidShare, thing, gap_sureness, 1, 9, thing)
            self.raises_given(InvalidShare, thing, gap_sureness, gap=thing, m=2, n=3)


class WrongWords(RaisingCase):
    def test_word(self):
        for thing in not_words():
            for function in (pair_count, rank_sum, gap_of):
                self.raises_given(InvalidWord, thing, function, thing)
                self.raises_given(InvalidWord, thing, function, word=thing)
            self.raises_given(InvalidWord, thing, is_between, thing, None, None)
            self.raises_given(InvalidWord, thing, is_between, highs=None, lows=None, word=thing)


class WrongStairs(RaisingCase):
    def test_lows_and_highs(self):
        right = (0, 0, 1, 2)
        wrong = odd_things() + deepest_things() + [
            (), (0,), (0, 1), (0, 1, 1), (0, 0, 0, 1, 2), (0,) * 300, list(right), (0, 0, 1, True), (False, 0, 1, 2),
            (0, 0, 1, one), (0, 0, 1, "2"), (0, 0, Fraction(1), 2), (0, 0, 1, None), (0, (1,), 1, 2), "0012", right[0],
            (nil, one, one, one), (right,), (right, right), {0: 0, 1: 0, 2: 1, 3: 2}, {0, 1, 2, 3}, range(4),
        ]
        for thing in wrong:
            for word in ((0, 1, 1), (1, 1, 0)):
                self.raises_given(InvalidStair, thing, is_between, word, thing, thing)
                self.raises_given(InvalidStair, thing, is_between, word, right, thing)
                self.raises_given(InvalidStair, thing, is_between, highs=None, lows=thing, word=word)
            self.raises_given(InvalidStair, thing, stair_count, 1, 2, thing, None)
            self.raises_given(InvalidStair, thing, stair_count, 1, 2, right, thing)
            self.raises_given(InvalidStair, thing, stair_count, highs=thing, lows=right, m=1, n=2)

    def test_as_many_as_asked(self):
        for n, m in lots_up_to(10):
            word, right = (0,) * n + (1,) * m, (0,) * (n + m + 1)
            for wrong in ((0,) * (n + m), (0,) * (n + m + 2)):
                self.raises_given(InvalidStair, wrong, is_between, word, wrong, right)
                self.raises_given(InvalidStair, wrong, is_between, word, right, wrong)
                self.raises_given(InvalidStair, wrong, stair_count, n, m, wrong, right)
                self.raises_given(InvalidStair, wrong, stair_count, n, m, right, wrong)
            self.assertEqual(stair_count(n, m, right, right), 0)


class WrongValues(RaisingCase):
    def test_no_tuple_of_so_many(self):
        for thing in odd_things() + deepest_things():
            if type(thing) is not tuple or len(thing) == 0:
                self.raises_index(InvalidValues, None, word_of, thing, (one,))
                self.raises_index(InvalidValues, None, word_of, (one,), thing)
                self.raises_index(InvalidValues, None, word_of, second=None, first=thing)
        for values in ((), (one,) * 10, (None,) * 10, (one,) * 300, [one], {0: one}):
            self.raises_index(InvalidValues, None, word_of, values, (two,))
            self.raises_index(InvalidValues, None, word_of, (two,), values)

    def test_more_than_ten_together(self):
        for n in range(1, 10):
            for many in (11 - n, 12 - n, 10):
                self.raises_index(InvalidValues, None, word_of, (one,) * n, (two,) * many)
                self.raises_index(InvalidValues, None, word_of, (one,) * n, (None,) * many)
                # Both the same, too: that they are not apart is asked behind everything else.
                self.raises_index(InvalidValues, None, word_of, (one,) * n, (one,) * many)
            self.assertEqual(word_of((one,) * n, (two,) * (10 - n)), (0,) * n + (1,) * (10 - n))

    def test_the_first_that_is_no_fraction(self):
        for thing in not_fractions() + deepest_things():
            self.raises_index(InvalidValues, 0, word_of, (thing, one), (thing,))
            self.raises_index(InvalidValues, 8, word_of, (one,) * 8 + (thing,), (one,))
            self.raises_index(InvalidValues, 0, word_of, (one,), (thing, thing))
            self.raises_index(InvalidValues, 2, word_of, (one,), (one, one, thing))
            self.raises_index(InvalidValues, 1, word_of, second=(one, thing), first=(one,))


class WrongOrder(RaisingCase):
    def test_that_the_first_wrong_argument_is_told(self):
        self.raises_given(InvalidNumber, 0, stair_count, 0, -1, None, ())
        self.raises_given(InvalidNumber, -1, stair_count, 9, -1, None, ())
        self.raises_given(InvalidNumber, 2, gap_sureness, 9, 2, two)
        self.raises_given(InvalidWord, two, is_between, two, None, ())
        self.raises_given(InvalidStair, two, stair_count, 1, 1, two, ())
        self.raises_index(InvalidValues, 1, word_of, (one, None), None)
