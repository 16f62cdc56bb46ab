import random
import unittest
from fractions import Fraction
from itertools import combinations_with_replacement, product

from anydraws.centres import (
    best_centre, centre_stretch, centre_sureness, low_sum, means_of_two, sign_word, sum_counts,
)
from anydraws.errors import InvalidFraction, InvalidNumber, InvalidValues, InvalidWish, InvalidWord, NotApart
from tests.drawn import (
    all_throws, best_even, deepest_things, drawn_fraction, drawn_share, is_told_fraction, not_counts, not_fractions,
    not_numbers_from_nought, not_wishes, number, odd_things, pair,
)
from tests.raising import RaisingCase

nil, half, one, two, three, six = (0, 1), (1, 2), (1, 1), (2, 1), (3, 1), (6, 1)
TINY = Fraction(1, 10 ** 90)
BIG = 10 ** 399


def own_counts(n):
    """The counts of the sums of lots, each number told to be within a lot or not."""
    ways = {0: 1}
    for k in range(1, n + 1):
        further = {}
        for total, here in ways.items():
            for more in (0, k):
                further[total + more] = further.get(total + more, 0) + here
        ways = further
    return [ways.get(total, 0) for total in range(n * (n + 1) // 2 + 1)]


def own_means(values):
    return sorted((number(x) + number(y)) / 2 for x, y in combinations_with_replacement(values, 2))


def drawn_values(rng, n, wide=True):
    if wide:
        return tuple(drawn_fraction(rng, -5, 5, 7) for _ in range(n))
    return tuple(rng.choice((nil, half, one, (-1, 3), two)) for _ in range(n))


class Examples(unittest.TestCase):
    def test_counts(self):
        told = [sum_counts(3), centre_sureness(3, 1, 6), best_centre(3, (3, 4)), best_centre(3, one)]
        self.assertEqual(told, [(1, 1, 1, 2, 1, 1, 1), (3, 4), 1, 0])

    def test_means(self):
        values = (nil, two, six)
        told = [means_of_two(values), centre_stretch(values, 1, 6), sign_word((nil, three, six), two)]
        told += [low_sum((0, 1, 0))]
        means = ((0, 1), (1, 1), (2, 1), (3, 1), (4, 1), (6, 1))
        self.assertEqual(told, [means, ((0, 1), (6, 1)), (1, 0, 1), 4])

    def test_not_apart(self):
        with self.assertRaises(NotApart):
            sign_word((nil, two, six), one)


class SumCounts(unittest.TestCase):
    def test_against_all_sign_words(self):
        for n in range(1, 12):
            sums = [sum(k for k, letter in enumerate(word, 1) if letter == 0) for word in product((0, 1), repeat=n)]
            self.assertEqual(list(sum_counts(n)), [sums.count(total) for total in range(n * (n + 1) // 2 + 1)])

    def test_up_to_twenty_draws(self):
        for n in range(1, 21):
            told = sum_counts(n)
            self.assertIs(type(told), tuple)
            self.assertTrue(all(type(count) is int for count in told))
            self.assertEqual(list(told), own_counts(n))
            self.assertEqual(sum(told), 2 ** n)
            self.assertEqual(told, told[::-1])
            middle = told[:len(told) // 2 + 1]
            self.assertEqual(list(middle), sorted(middle))


class CentreSureness(unittest.TestCase):
    def test_all_stretches(self):
        for n in list(range(1, 8)) + [20]:
            counts, many = own_counts(n), n * (n + 1) // 2
            step = 1 if n < 8 else 17
            for i in range(0, many + 1, step):
                for j in list(range(i + 1, many + 1, step)) + [many + 1]:
                    told = centre_sureness(n, i, j)
                    self.assertTrue(is_told_fraction(told))
                    self.assertEqual(number(told), Fraction(sum(counts[i:j]), 2 ** n))

    def test_the_ends(self):
        for n in range(1, 21):
            many = n * (n + 1) // 2
            self.assertEqual(centre_sureness(n, 0, many + 1), one)
            self.assertEqual(centre_sureness(n, 0, 1), (1, 2 ** n))
            self.assertEqual(centre_sureness(n, many, many + 1), (1, 2 ** n))

    def test_against_atoms(self):
        # Atoms at -2, -1, 0, 1, 2, those at one distance as likely: even around 0.
        rng = random.Random(1)
        for n in (1, 2, 3, 4):
            many = n * (n + 1) // 2
            for _ in range(6):
                weights = [rng.randint(0, 3), rng.randint(0, 3), rng.randint(1, 3)]
                weights += weights[1::-1]
                chances = [Fraction(weight, sum(weights)) for weight in weights]
                i = rng.randint(0, many)
                j = rng.randint(i + 1, many + 1)
                kept = Fraction(0)
                for places, chance in all_throws(n, chances):
                    sums = sorted(x + y - 4 for x, y in combinations_with_replacement(places, 2))
                    told = [-9] + sums + [9]
                    kept += chance if told[i] <= 0 <= told[j] else 0
                self.assertGreaterEqual(kept, number(centre_sureness(n, i, j)))


class Means(unittest.TestCase):
    def test_drawn_values(self):
        rng = random.Random(2)
        like = 0
        for n in range(1, 21):
            for wide in (True, False):
                values = drawn_values(rng, n, wide)
                told = means_of_two(values)
                self.assertIs(type(told), tuple)
                self.assertTrue(all(is_told_fraction(mean) for mean in told))
                own = own_means(values)
                self.assertEqual([number(mean) for mean in told], own)
                like += len(set(own)) < len(own)
                self.assertEqual(means_of_two(tuple(rng.sample(values, n))), told)
        self.assertGreater(like, 15)

    def test_ends(self):
        rng = random.Random(3)
        for n in (1, 2, 3, 4, 7, 20):
            values = drawn_values(rng, n, n % 2 == 0)
            own = [None] + own_means(values) + [None]
            many = n * (n + 1) // 2
            for i in range(0, many + 1, 1 + many // 9):
                for j in {i + 1, (i + many) // 2 + 1, many, many + 1}:
                    if i < j:
                        told = centre_stretch(values, i, j)
                        self.assertIs(type(told), tuple)
                        self.assertEqual(tuple(end and number(end) for end in told), (own[i], own[j]))
                        self.assertTrue(all(end is None or is_told_fraction(end) for end in told))

    def test_like_values(self):
        self.assertEqual(means_of_two((one, one)), (one,) * 3)
        self.assertEqual(means_of_two((one, nil, one)), (nil, half, half, one, one, one))
        self.assertEqual(centre_stretch((one, one), 0, 4), (None, None))
        self.assertEqual(centre_stretch((one, one), 1, 2), (one, one))
        self.assertEqual(centre_stretch((one, nil, one), 3, 4), (half, one))
        self.assertEqual(centre_stretch((nil,), 0, 1), (None, nil))

    def test_numbers_of_four_hundred_figures(self):
        values = tuple(pair(Fraction(BIG + k * k, BIG - 1 - k)) for k in range(8))
        self.assertEqual([number(mean) for mean in means_of_two(values)], own_means(values))


class BestCentre(unittest.TestCase):
    def check(self, n, wish, counts):
        told = best_centre(n, pair(wish))
        self.assertIs(type(told), int)
        self.assertEqual(told, best_even(counts, wish), (n, wish))
        return told

    def test_each_start_just_at_its_sureness(self):
        for n in range(1, 21):
            counts = own_counts(n)
            many = len(counts) - 1
            for i in range(many // 2 + 1):
                sureness = Fraction(sum(counts[i:many + 1 - i]), 2 ** n)
                self.assertEqual(self.check(n, sureness, counts), i)
                self.assertEqual(self.check(n, sureness - TINY, counts), i)
                if sureness < 1:
                    self.assertEqual(self.check(n, sureness + TINY, counts), i - 1)

    def test_drawn_wishes(self):
        rng = random.Random(4)
        for n in range(1, 21):
            for _ in range(5):
                wish = drawn_share(rng, 40)
                if wish != nil:
                    self.check(n, number(wish), own_counts(n))
            self.assertEqual(best_centre(n, one), 0)
            self.assertEqual(best_centre(n, (1, BIG)), n * (n + 1) // 4)


class SignWord(unittest.TestCase):
    def test_all_sign_words(self):
        rng = random.Random(5)
        for n in range(1, 7):
            for word in product((0, 1), repeat=n):
                centre = Fraction(rng.randint(-30, 30), rng.randint(1, 9))
                sizes = sorted(rng.sample(range(1, 99), n))
                values = [pair(centre + (Fraction(size, 7) if letter else -Fraction(size, 7)))
                          for size, letter in zip(sizes, word)]
                rng.shuffle(values)
                told = sign_word(tuple(values), pair(centre))
                self.assertIs(type(told), tuple)
                self.assertEqual(told, word)
                self.assertTrue(all(type(letter) is int for letter in told))
                total = sum(k for k, letter in enumerate(word, 1) if letter == 0)
                self.assertEqual(low_sum(told), total)
                below = sum(1 for mean in means_of_two(tuple(values)) if number(mean) < centre)
                self.assertEqual(below, total)

    def test_up_to_twenty_draws(self):
        rng = random.Random(6)
        for n in range(7, 21):
            while True:
                values, centre = drawn_values(rng, n), Fraction(rng.randint(-40, 40), 13)
                if len({abs(number(value) - centre) for value in values} - {0}) == n:
                    break
            order = sorted(values, key=lambda value: abs(number(value) - centre))
            told = sign_word(values, pair(centre))
            self.assertEqual(told, tuple(1 if number(value) > centre else 0 for value in order))
            below = sum(1 for mean in means_of_two(values) if number(mean) < centre)
            self.assertEqual(below, low_sum(told))
            self.assertEqual(sign_word(centre=pair(centre), values=values), told)

    def test_distances_just_apart(self):
        above, below = pair(1 + Fraction(1, BIG)), pair(-1 - Fraction(1, BIG))
        self.assertEqual(sign_word(((-1, 1), above), nil), (0, 1))
        self.assertEqual(sign_word((one, below), nil), (1, 0))
        self.assertEqual(sign_word((above,), one), (1,))
        self.assertEqual(sign_word((one,), above), (0,))

    def test_that_distances_are_the_same(self):
        for values, centre in (
            ((one,), one), ((nil, two), one), ((one, one), nil), ((nil, three, six), three), ((half, two, half), six),
            (((-5, 7), (5, 7)), nil), (((BIG + 1, 1), (BIG - 1, 1)), (BIG, 1)),
            (tuple((k, 1) for k in range(20)), (19, 2)), (((1, 1), (5, 1), (2, 1), (9, 1)), (7, 2)),
        ):
            with self.assertRaises(NotApart):
                sign_word(values, centre)
            with self.assertRaises(NotApart):
                sign_word(centre=centre, values=values)


class LowSum(unittest.TestCase):
    def test_all_words(self):
        for n in range(1, 9):
            for word in product((0, 1), repeat=n):
                told = low_sum(word=word)
                self.assertIs(type(told), int)
                self.assertEqual(told, sum(k + 1 for k in range(n) if word[k] == 0))
        self.assertEqual([low_sum((0,) * 20), low_sum((1,) * 20), low_sum((1,)), low_sum((0,))], [210, 0, 0, 1])


class WrongArguments(RaisingCase):
    def test_n(self):
        for thing in not_counts() + [21, 22, 10 ** 6]:
            self.raises_given(InvalidNumber, thing, sum_counts, thing)
            self.raises_given(InvalidNumber, thing, sum_counts, n=thing)
            self.raises_given(InvalidNumber, thing, centre_sureness, thing, 0, 1)
            self.raises_given(InvalidNumber, thing, centre_sureness, j=None, i=None, n=thing)
            self.raises_given(InvalidNumber, thing, best_centre, thing, half)
            self.raises_given(InvalidNumber, thing, best_centre, wish=None, n=thing)

    def test_i_and_j(self):
        for n in (1, 2, 5, 20):
            many, values = n * (n + 1) // 2, (one,) * n
            for thing in not_numbers_from_nought() + [many + 1, many + 2, 401]:
                self.raises_given(InvalidNumber, thing, centre_sureness, n, thing, None)
                self.raises_given(InvalidNumber, thing, centre_sureness, j=None, i=thing, n=n)
                self.raises_given(InvalidNumber, thing, centre_stretch, values, thing, None)
                self.raises_given(InvalidNumber, thing, centre_stretch, j=None, i=thing, values=values)
            for i in (0, 1, many - 1, many):
                for thing in not_counts() + [i, i - 1, many + 2, many + 3, 402]:
                    self.raises_given(InvalidNumber, thing, centre_sureness, n, i, thing)
                    self.raises_given(InvalidNumber, thing, centre_sureness, j=thing, i=i, n=n)
                    self.raises_given(InvalidNumber, thing, centre_stretch, values, i, thing)
                    self.raises_given(InvalidNumber, thing, centre_stretch, j=thing, i=i, values=values)
                for j in (i + 1, many + 1):
                    self.assertGreater(centre_sureness(n, i, j)[0], 0)
                    self.assertEqual(centre_stretch(values, i, j), (one if i else None, None if j > many else one))

    def test_wish(self):
        for thing in not_wishes():
            self.raises_given(InvalidWish, thing, best_centre, 2, thing)
            self.raises_given(InvalidWish, thing, best_centre, wish=thing, n=20)

    def test_values(self):
        def wrong(index, values):
            self.raises_index(InvalidValues, index, means_of_two, values)
            self.raises_index(InvalidValues, index, means_of_two, values=values)
            self.raises_index(InvalidValues, index, centre_stretch, values, None, None)
            self.raises_index(InvalidValues, index, centre_stretch, j=0, i=0, values=values)
            self.raises_index(InvalidValues, index, sign_word, values, None)
            self.raises_index(InvalidValues, index, sign_word, centre=nil, values=values)

        for thing in odd_things() + deepest_things():
            if type(thing) is not tuple or len(thing) == 0:
                wrong(None, thing)
        for values in ((), (one,) * 21, (None,) * 21, (one,) * 300, [one], {0: one}, (one, two) * 11):
            wrong(None, values)
        for thing in not_fractions() + deepest_things():
            wrong(0, (thing,))
            wrong(0, (thing, one, thing))
            wrong(2, (one, one, thing))
            wrong(19, (one,) * 19 + (thing,))
        self.assertEqual(means_of_two((one,) * 20), (one,) * 210)

    def test_centre(self):
        for thing in not_fractions() + deepest_things():
            self.raises_given(InvalidFraction, thing, sign_word, (one, two), thing)
            self.raises_given(InvalidFraction, thing, sign_word, centre=thing, values=(one, one))

    def test_word(self):
        wrong = [thing for thing in odd_things() if repr(thing) != "(0, 1, 1)"] + deepest_things() + [
            (), (0,) * 21, (1,) * 21, (0, 1) * 11, (0, 1) * 150, [0, 1], [1], "01", b"01", (0, True), (False,),
            (True, 1), (0, 1, 2), (-1,), (2,), (0, None), (0, nil), ((0,), (1,)), ("0",), {0: 0}, 0, 1, (Fraction(1),), (0, BIG),
        ]
        for thing in wrong:
            self.raises_given(InvalidWord, thing, low_sum, thing)
            self.raises_given(InvalidWord, thing, low_sum, word=thing)

    def test_that_the_first_wrong_argument_is_told(self):
        self.raises_given(InvalidNumber, 0, centre_sureness, 0, -1, -2)
        self.raises_given(InvalidNumber, -1, centre_sureness, 1, -1, -2)
        self.raises_given(InvalidNumber, 21, best_centre, 21, nil)
        self.raises_index(InvalidValues, 1, sign_word, (one, None), None)
        self.raises_index(InvalidValues, 1, centre_stretch, (one, None), -1, -2)
        # Distances that are the same, behind every other fault.
        self.raises_index(InvalidValues, 2, sign_word, (one, one, None), one)
        self.raises_index(InvalidValues, None, sign_word, (one,) * 21, one)
        self.raises_given(InvalidFraction, (2, 2), sign_word, (one, one), (2, 2))


class Calls(unittest.TestCase):
    def test_by_name_and_again(self):
        rng = random.Random(7)
        for n in (1, 2, 7, 20):
            values = drawn_values(rng, n)
            kept = tuple(values)
            self.assertEqual(sum_counts(n=n), sum_counts(n))
            self.assertEqual(centre_sureness(j=1, i=0, n=n), centre_sureness(n, 0, 1))
            self.assertEqual(best_centre(wish=half, n=n), best_centre(n, half))
            self.assertEqual(means_of_two(values=values), means_of_two(kept))
            self.assertEqual(centre_stretch(j=1, i=0, values=values), centre_stretch(kept, 0, 1))
            self.assertEqual(values, kept)
