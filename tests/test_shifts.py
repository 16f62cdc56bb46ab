import random
import unittest
from fractions import Fraction
from math import comb

from anydraws.errors import InvalidNumber, InvalidValues, InvalidWish
from anydraws.shifts import best_shift, differences, pair_counts, shift_stretch, shift_sureness
from anydraws.words import pair_count, word_of
from tests.drawn import (
    all_throws, best_even, deepest_things, drawn_atoms, drawn_fraction, drawn_share, is_told_fraction, lots_up_to,
    not_counts, not_fractions, not_numbers_from_nought, not_wishes, number, odd_things, own_words, pair,
)
from tests.raising import RaisingCase

nil, half, one, two, three, six = (0, 1), (1, 2), (1, 1), (2, 1), (3, 1), (6, 1)
TINY = Fraction(1, 10 ** 90)
BIG = 10 ** 399


def pairs_of_b_and_a(word):
    return sum(1 for j in range(len(word)) for i in range(j) if (word[i], word[j]) == (1, 0))


def own_counts(n, m):
    """The counts by choosing places for the b's: how many choices have which sum of places."""
    ways = {(0, 0): 1}
    for place in range(1, n + m + 1):
        further = dict(ways)
        for (chosen, total), here in ways.items():
            at = (chosen + 1, total + place)
            further[at] = further.get(at, 0) + here
        ways = further
    least = m * (m + 1) // 2
    return [ways.get((m, least + count), 0) for count in range(n * m + 1)]


def drawn_lots(rng, n, m, wide=True):
    if wide:
        values = [drawn_fraction(rng, -5, 5, 7) for _ in range(n + m)]
    else:
        values = [rng.choice((nil, half, one, (-1, 3), two)) for _ in range(n + m)]
    return tuple(values[:n]), tuple(values[n:])


def own_differences(first, second):
    return sorted(number(b) - number(a) for a in first for b in second)


class Examples(unittest.TestCase):
    def test_counts(self):
        told = [pair_counts(2, 2), shift_sureness(2, 2, 1, 4), shift_sureness(2, 2, 0, 5)]
        told += [best_shift(2, 2, (2, 3)), best_shift(2, 2, one)]
        self.assertEqual(told, [(1, 1, 2, 1, 1), (2, 3), (1, 1), 1, 0])

    def test_differences(self):
        first, second = (nil, one), (three, six)
        told = [differences(first, second), shift_stretch(first, second, 1, 4), shift_stretch(first, second, 0, 2)]
        self.assertEqual(told, [((2, 1), (3, 1), (5, 1), (6, 1)), ((2, 1), (6, 1)), (None, (3, 1))])


class PairCounts(unittest.TestCase):
    def test_against_all_words(self):
        for n, m in lots_up_to(10):
            words = own_words(n, m)
            told = pair_counts(n, m)
            for counts in ([pair_count(word) for word in words], [pairs_of_b_and_a(word) for word in words]):
                self.assertEqual(list(told), [counts.count(k) for k in range(n * m + 1)])

    def test_up_to_twenty_draws(self):
        for n, m in lots_up_to(20):
            told = pair_counts(n, m)
            self.assertIs(type(told), tuple)
            self.assertTrue(all(type(count) is int for count in told))
            self.assertEqual(list(told), own_counts(n, m))
            self.assertEqual(sum(told), comb(n + m, m))
            self.assertEqual(told, told[::-1])
            middle = told[:n * m // 2 + 1]
            self.assertEqual(list(middle), sorted(middle))


class ShiftSureness(unittest.TestCase):
    def test_against_all_words(self):
        for n, m in lots_up_to(6):
            counts = [pairs_of_b_and_a(word) for word in own_words(n, m)]
            for i in range(n * m + 1):
                for j in range(i + 1, n * m + 2):
                    told = shift_sureness(n, m, i, j)
                    self.assertTrue(is_told_fraction(told))
                    kept = sum(1 for count in counts if i <= count < j)
                    self.assertEqual(number(told), Fraction(kept, len(counts)))

    def test_up_to_twenty_draws(self):
        rng = random.Random(1)
        for n, m in lots_up_to(20):
            counts = own_counts(n, m)
            for _ in range(4):
                i = rng.randint(0, n * m)
                j = rng.randint(i + 1, n * m + 1)
                told = Fraction(sum(counts[i:j]), comb(n + m, m))
                self.assertEqual(number(shift_sureness(n, m, i, j)), told)
            self.assertEqual(shift_sureness(n, m, 0, n * m + 1), one)
            ends = Fraction(1, comb(n + m, m))
            self.assertEqual(number(shift_sureness(n, m, 0, 1)), ends)
            self.assertEqual(number(shift_sureness(n, m, n * m, n * m + 1)), ends)

    def test_against_atoms(self):
        rng = random.Random(2)
        for n, m in ((1, 1), (1, 2), (2, 1), (2, 2), (3, 2)):
            for _ in range(5):
                shares = [number(share) for share in drawn_atoms(rng, rng.randint(1, 3), 3)]
                i = rng.randint(0, n * m)
                j = rng.randint(i + 1, n * m + 1)
                kept = Fraction(0)
                for firsts, chance in all_throws(n, shares):
                    for seconds, there in all_throws(m, shares):
                        # The b's are moved by 7; so is what the ends have to leave between them.
                        told = [float("-inf")] + sorted(b + 7 - a for a in firsts for b in seconds) + [float("inf")]
                        kept += chance * there if told[i] <= 7 <= told[j] else 0
                self.assertGreaterEqual(kept, number(shift_sureness(n, m, i, j)))


class Differences(unittest.TestCase):
    def test_drawn_values(self):
        rng = random.Random(3)
        like = 0
        for n, m in lots_up_to(20):
            for wide in (True, False):
                first, second = drawn_lots(rng, n, m, wide)
                told = differences(first, second)
                self.assertIs(type(told), tuple)
                self.assertTrue(all(is_told_fraction(step) for step in told))
                own = own_differences(first, second)
                self.assertEqual([number(step) for step in told], own)
                like += len(set(own)) < len(own)
        self.assertGreater(like, 100)

    def test_ends(self):
        rng = random.Random(4)
        for n, m in lots_up_to(6) + [(10, 10), (19, 1), (1, 19)]:
            first, second = drawn_lots(rng, n, m, n % 2 == 0)
            own = [None] + own_differences(first, second) + [None]
            for i in range(0, n * m + 1, 1 + n * m // 9):
                for j in {i + 1, (i + n * m) // 2 + 1, n * m, n * m + 1}:
                    if i < j:
                        told = shift_stretch(first, second, i, j)
                        self.assertIs(type(told), tuple)
                        self.assertEqual(tuple(end and number(end) for end in told), (own[i], own[j]))
                        self.assertTrue(all(end is None or is_told_fraction(end) for end in told))

    def test_like_values(self):
        self.assertEqual(differences((one, one), (one, two, one)), (nil,) * 4 + (one,) * 2)
        self.assertEqual(shift_stretch((one, one), (one, two, one), 4, 5), (nil, one))
        self.assertEqual(shift_stretch((one, one), (one, two, one), 3, 4), (nil, nil))
        self.assertEqual(shift_stretch((one,), (one,), 0, 2), (None, None))
        self.assertEqual(shift_stretch((one,), (one,), 1, 2), (nil, None))

    def test_that_the_word_tells_how_many_are_below_an_amount(self):
        rng = random.Random(5)
        for n, m in lots_up_to(10):
            while True:
                first, second = drawn_lots(rng, n, m)
                amount = Fraction(rng.randint(-60, 60), 11)
                own = own_differences(first, second)
                if amount not in own:
                    break
            word = word_of(first, tuple(pair(number(b) - amount) for b in second))
            below = sum(1 for step in differences(first, second) if number(step) < amount)
            self.assertEqual(below, pairs_of_b_and_a(word))

    def test_numbers_of_four_hundred_figures(self):
        first = tuple(pair(Fraction(BIG + k, BIG - 1)) for k in range(4))
        second = tuple(pair(Fraction(BIG - k * k, BIG + 1 + k)) for k in range(5))
        self.assertEqual([number(step) for step in differences(first, second)], own_differences(first, second))


class BestShift(unittest.TestCase):
    def check(self, n, m, wish, counts):
        told = best_shift(n, m, pair(wish))
        self.assertIs(type(told), int)
        self.assertEqual(told, best_even(counts, wish), (n, m, wish))
        return told

    def test_each_start_just_at_its_sureness(self):
        for n, m in lots_up_to(9) + [(10, 10), (19, 1), (1, 19), (13, 7)]:
            counts = own_counts(n, m)
            whole, many = sum(counts), n * m
            for i in range(many // 2 + 1):
                sureness = Fraction(sum(counts[i:many + 1 - i]), whole)
                self.assertEqual(self.check(n, m, sureness, counts), i)
                self.assertEqual(self.check(n, m, sureness - TINY, counts), i)
                if sureness < 1:
                    self.assertEqual(self.check(n, m, sureness + TINY, counts), i - 1)

    def test_drawn_wishes(self):
        rng = random.Random(6)
        seen = {}
        for n, m in lots_up_to(20):
            wish = drawn_share(rng, 40)
            if wish != nil:
                seen[self.check(n, m, number(wish), own_counts(n, m))] = True
        self.assertGreater(len(seen), 12)

    def test_the_greatest_and_the_least_wish(self):
        for n, m in lots_up_to(20):
            self.assertEqual(best_shift(n, m, one), 0)
            self.assertEqual(best_shift(n, m, (1, BIG)), n * m // 2)


class WrongNumbers(RaisingCase):
    def calls(self):
        return [(pair_counts, {}), (shift_sureness, {"i": None, "j": None}), (best_shift, {"wish": None})]

    def test_n(self):
        for thing in not_counts() + [20, 21, 10 ** 6]:
            for function, more in self.calls():
                self.raises_given(InvalidNumber, thing, function, thing, 1, *more.values())
                self.raises_given(InvalidNumber, thing, function, m=None, n=thing, **more)

    def test_m(self):
        for n in range(1, 20):
            for thing in not_counts() + [21 - n, 22 - n, 20, 21, 10 ** 6]:
                for function, more in self.calls():
                    self.raises_given(InvalidNumber, thing, function, n, thing, *more.values())
                    self.raises_given(InvalidNumber, thing, function, m=thing, n=n, **more)
            self.assertEqual(sum(pair_counts(n, 20 - n)), comb(20, n))

    def test_i_and_j(self):
        for n, m in ((1, 1), (2, 3), (19, 1), (10, 10)):
            many = n * m
            first, second = (one,) * n, (two,) * m
            for thing in not_numbers_from_nought() + [many + 1, many + 2, 401]:
                self.raises_given(InvalidNumber, thing, shift_sureness, n, m, thing, None)
                self.raises_given(InvalidNumber, thing, shift_sureness, j=None, i=thing, m=m, n=n)
                self.raises_given(InvalidNumber, thing, shift_stretch, first, second, thing, None)
                self.raises_given(InvalidNumber, thing, shift_stretch, j=None, i=thing, second=second, first=first)
            for i in (0, 1, many - 1, many):
                for thing in not_counts() + [i, i - 1, many + 2, many + 3, 402]:
                    self.raises_given(InvalidNumber, thing, shift_sureness, n, m, i, thing)
                    self.raises_given(InvalidNumber, thing, shift_sureness, j=thing, i=i, m=m, n=n)
                    self.raises_given(InvalidNumber, thing, shift_stretch, first, second, i, thing)
                    self.raises_given(InvalidNumber, thing, shift_stretch, j=thing, i=i, second=second, first=first)
                for j in (i + 1, many + 1):
                    self.assertGreater(shift_sureness(n, m, i, j)[0], 0)
                    self.assertEqual(shift_stretch(first, second, i, j),
                                     (one if i else None, None if j > many else one))

    def test_wish(self):
        for thing in not_wishes():
            self.raises_given(InvalidWish, thing, best_shift, 2, 3, thing)
            self.raises_given(InvalidWish, thing, best_shift, wish=thing, m=1, n=19)

    def test_that_the_first_wrong_argument_is_told(self):
        self.raises_given(InvalidNumber, 0, shift_sureness, 0, -1, -2, -3)
        self.raises_given(InvalidNumber, -1, shift_sureness, 1, -1, -2, -3)
        self.raises_given(InvalidNumber, -2, shift_sureness, 1, 1, -2, -3)
        self.raises_given(InvalidNumber, 20, best_shift, 20, 21, nil)
        self.raises_given(InvalidNumber, 2, best_shift, 19, 2, nil)
        self.raises_index(InvalidValues, 1, shift_stretch, (one, None), None, -1, -1)
        self.raises_index(InvalidValues, 1, shift_stretch, (one,), (one, None), -1, -1)


class WrongValues(RaisingCase):
    def wrong(self, index, first, second):
        self.raises_index(InvalidValues, index, differences, first, second)
        self.raises_index(InvalidValues, index, differences, second=second, first=first)
        self.raises_index(InvalidValues, index, shift_stretch, first, second, None, None)
        self.raises_index(InvalidValues, index, shift_stretch, j=0, i=0, second=second, first=first)

    def test_no_tuple_of_so_many(self):
        for thing in odd_things() + deepest_things():
            if type(thing) is not tuple or len(thing) == 0:
                self.wrong(None, thing, None)
                self.wrong(None, (one,), thing)
        for values in ((), (one,) * 20, (None,) * 20, (one,) * 300, [one], {0: one}):
            self.wrong(None, values, (two,))
            self.wrong(None, (two,), values)

    def test_more_than_twenty_together(self):
        for n in range(1, 20):
            for many in (21 - n, 22 - n, 20):
                self.wrong(None, (one,) * n, (two,) * many)
                self.wrong(None, (one,) * n, (None,) * many)
            self.assertEqual(differences((one,) * n, (two,) * (20 - n)), (one,) * (n * (20 - n)))

    def test_the_first_that_is_no_fraction(self):
        for thing in not_fractions() + deepest_things():
            self.wrong(0, (thing, one), (thing,))
            self.wrong(18, (one,) * 18 + (thing,), (one,))
            self.wrong(0, (one,), (thing, thing))
            self.wrong(2, (one,), (one, one, thing))


class Calls(unittest.TestCase):
    def test_by_name_and_again(self):
        rng = random.Random(7)
        for n, m in ((1, 1), (2, 5), (19, 1)):
            first, second = drawn_lots(rng, n, m)
            kept = tuple(first), tuple(second)
            self.assertEqual(pair_counts(m=m, n=n), pair_counts(n, m))
            self.assertEqual(shift_sureness(j=1, i=0, m=m, n=n), shift_sureness(n, m, 0, 1))
            self.assertEqual(best_shift(wish=half, m=m, n=n), best_shift(n, m, half))
            self.assertEqual(differences(second=second, first=first), differences(*kept))
            told = shift_stretch(j=1, i=0, second=second, first=first)
            self.assertEqual(told, shift_stretch(*kept, 0, 1))
            self.assertEqual((first, second), kept)
