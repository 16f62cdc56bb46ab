import random
import unittest
from fractions import Fraction
from itertools import combinations, permutations
from math import comb, factorial

from anydraws.errors import InvalidFraction, InvalidNumber, InvalidWord, InvalidWords
from anydraws.words import (
    all_words, best_words, closed_up, is_best, is_closed_up, lowest_words, set_power, set_sureness, word_chance,
)
from tests.drawn import (
    deepest_things, is_told_fraction, lots_up_to, not_counts, not_fractions, not_words, number, odd_things, own_words,
    pair,
)
from tests.raising import RaisingCase

nil, half, one, two, three = (0, 1), (1, 2), (1, 1), (2, 1), (3, 1)
BIG = 10 ** 399
POWERS = [one, two, half, three, (1, 3), (3, 2), (7, 5), (2, 9)]


def own_chance(word, k):
    """The product of [28], k being a number."""
    n, m = word.count(0), word.count(1)
    weights = [k if letter == 1 else Fraction(1) for letter in word]
    chance = Fraction(factorial(n) * factorial(m)) * k ** m
    for i in range(1, n + m + 1):
        chance /= sum(weights[:i])
    return chance


def chances_by_orders(n, m, k):
    """The chance of each word by all orders of the a's and of k draws for each b, k being whole."""
    owners = [(0, a) for a in range(n)] + [(1, b) for b in range(m) for _ in range(k)]
    found, orders = {}, 0
    for order in permutations(range(len(owners))):
        orders += 1
        last = {}
        for place, at in enumerate(order):
            last[owners[at]] = place
        word = tuple(letter for letter, _ in sorted(last, key=last.get))
        found[word] = found.get(word, 0) + 1
    return {word: Fraction(count, orders) for word, count in found.items()}


def own_above(word):
    """The words just above it."""
    found = []
    for k in range(len(word) - 1):
        if (word[k], word[k + 1]) == (1, 0):
            above = list(word)
            above[k], above[k + 1] = 0, 1
            found.append(tuple(above))
    return found


def own_closed(words):
    """The words that come of these by turns, all turns done once more until nothing new comes."""
    found = set(words)
    while True:
        more = found | {above for word in found for above in own_above(word)}
        if more == found:
            return tuple(sorted(found))
        found = more


def drawn_set(rng, n, m):
    words = own_words(n, m)
    many = rng.choice((1, 2, 3, len(words) // 2, len(words)))
    return tuple(sorted(rng.sample(words, min(max(1, many), len(words)))))


class Examples(unittest.TestCase):
    def test_sets(self):
        self.assertEqual(set_sureness(((0, 1, 1), (1, 0, 1))), (2, 3))
        told = [word_chance((0, 1, 1), two), word_chance((1, 0, 1), two), word_chance((1, 1, 0), two)]
        told += [set_power(((0, 1, 1), (1, 1, 0)), two), best_words(1, 2, 2, two), is_best(((1, 0, 1),), two)]
        self.assertEqual(told, [(8, 15), (4, 15), (1, 5), (11, 15), ((0, 1, 1), (1, 0, 1)), False])
        told = [is_closed_up(((0, 1, 1),)), is_closed_up(((1, 0, 1),)), closed_up(((1, 0, 1),))]
        told += [lowest_words(((0, 1, 1), (1, 0, 1)))]
        self.assertEqual(told, [True, False, ((0, 1, 1), (1, 0, 1)), ((1, 0, 1),)])


class SetSureness(unittest.TestCase):
    def test_the_size_of_all(self):
        rng = random.Random(1)
        for n, m in lots_up_to(10):
            for _ in range(3):
                words = drawn_set(rng, n, m)
                told = set_sureness(words)
                self.assertTrue(is_told_fraction(told))
                self.assertEqual(number(told), Fraction(len(words), comb(n + m, m)))
            self.assertEqual(set_sureness(all_words(n, m)), one)


class WordChance(unittest.TestCase):
    def test_against_all_orders(self):
        for n, m, k in ((1, 1, 1), (1, 1, 2), (1, 1, 6), (2, 1, 3), (1, 2, 3), (2, 2, 2), (3, 1, 4), (3, 2, 2),
                        (2, 3, 1), (1, 3, 2), (4, 1, 3)):
            by_orders = chances_by_orders(n, m, k)
            for word in own_words(n, m):
                self.assertEqual(number(word_chance(word, (k, 1))), by_orders[word], (word, k))

    def test_against_the_product(self):
        rng = random.Random(2)
        for n, m in lots_up_to(10):
            words = own_words(n, m)
            for power in rng.sample(POWERS, 3) + [(rng.randint(1, 99), 1 + 100 * rng.randint(1, 9))]:
                power = pair(number(power))
                for word in rng.sample(words, min(12, len(words))):
                    told = word_chance(word, power)
                    self.assertTrue(is_told_fraction(told))
                    self.assertEqual(number(told), own_chance(word, number(power)))

    def test_that_all_words_together_have_one(self):
        for n, m in lots_up_to(10):
            for power in (two, (1, 3), (7, 5)):
                if n + m < 8:
                    self.assertEqual(sum(number(word_chance(word, power)) for word in own_words(n, m)), 1)
                self.assertEqual(set_power(all_words(n, m), power), one)

    def test_that_all_words_are_as_likely_for_the_power_one(self):
        for n, m in ((1, 1), (3, 2), (2, 6), (5, 5)):
            for word in own_words(n, m)[::7]:
                self.assertEqual(number(word_chance(word, one)), Fraction(1, comb(n + m, m)))

    def test_letters_exchanged(self):
        for n, m in lots_up_to(7):
            for power in POWERS + [(BIG, BIG - 1)]:
                for word in own_words(n, m)[::4]:
                    exchanged = tuple(1 - letter for letter in word)
                    self.assertEqual(word_chance(exchanged, power[::-1]), word_chance(word, power))

    def test_numbers_of_four_hundred_figures(self):
        for power in ((BIG, 1), (1, BIG), (BIG, BIG - 1)):
            for word in ((0, 1), (1, 0), (0, 1, 1, 0, 1, 0, 0, 1, 1, 0)):
                self.assertEqual(number(word_chance(word, power)), own_chance(word, number(power)))

    def test_by_name(self):
        self.assertEqual(word_chance(power=two, word=(0, 1)), (2, 3))
        self.assertEqual(set_power(power=two, words=((0, 1), (1, 0))), one)


class SetPower(unittest.TestCase):
    def test_the_sum(self):
        rng = random.Random(3)
        for n, m in lots_up_to(10):
            words, power = drawn_set(rng, n, m), rng.choice(POWERS)
            told = set_power(words, power)
            self.assertTrue(is_told_fraction(told))
            self.assertEqual(number(told), sum(own_chance(word, number(power)) for word in words))


class BestWords(unittest.TestCase):
    def test_against_all_sets(self):
        for n, m in lots_up_to(5):
            words = own_words(n, m)
            for power in (one, two, (1, 3), (3, 2)):
                chances = {word: own_chance(word, number(power)) for word in words}
                for many in range(1, len(words) + 1):
                    sets = list(combinations(words, many))
                    greatest = max(sum(chances[word] for word in told) for told in sets)
                    best = [told for told in sets if sum(chances[word] for word in told) == greatest]
                    told = best_words(n, m, many, power)
                    self.assertIn(told, best)
                    for other in sets if len(sets) < 80 else best + sets[::9]:
                        self.assertIs(is_best(other, power), other in best, (other, power))

    def test_words_with_one_chance(self):
        ties = 0
        for n, m in lots_up_to(10):
            words = own_words(n, m)
            for power in (one, two, half, (3, 2)):
                order = sorted(words, key=lambda word: (-own_chance(word, number(power)), word))
                if len(words) <= 40 or power in (one, two):
                    step = max(1, len(words) // 9)
                    for many in list(range(1, len(words), step)) + [len(words)]:
                        told = best_words(n, m, many, power)
                        self.assertEqual(told, tuple(sorted(order[:many])))
                        self.assertIs(is_best(told, power), True)
                if power != one:
                    ties += len(words) - len({own_chance(word, number(power)) for word in words})
        self.assertGreater(ties, 0)

    def test_the_power_one(self):
        for n, m in ((1, 1), (2, 3), (5, 5)):
            words = own_words(n, m)
            for many in (1, 2, len(words)):
                self.assertEqual(best_words(power=one, many=many, m=m, n=n), tuple(words[:many]))
            self.assertIs(is_best(power=one, words=tuple(words[-2:])), True)

    def test_other_words_with_the_chance_of_one_within(self):
        # Two words with one chance for the power 2, where the weights' sums are the same numbers.
        n, m, power = next((n, m, two) for n, m in lots_up_to(10)
                           if len({own_chance(word, 2) for word in own_words(n, m)}) < comb(n + m, m))
        words = own_words(n, m)
        order = sorted(words, key=lambda word: (-own_chance(word, 2), word))
        at = next(k for k in range(len(words) - 1) if own_chance(order[k], 2) == own_chance(order[k + 1], 2))
        self.assertIs(is_best(tuple(sorted(order[:at + 1])), power), True)
        self.assertIs(is_best(tuple(sorted(order[:at] + [order[at + 1]])), power), True)
        self.assertEqual(best_words(n, m, at + 1, power), tuple(sorted(order[:at + 1])))

    def test_sets_that_lack_one(self):
        for n, m in ((1, 3), (3, 3), (4, 5)):
            for power in (two, half):
                for many in (1, 3):
                    best = best_words(n, m, many, power)
                    worse = [word for word in own_words(n, m)
                             if own_chance(word, number(power)) < min(own_chance(x, number(power)) for x in best)]
                    for word in worse[:3]:
                        self.assertIs(is_best(tuple(sorted(best[1:] + (word,))), power), False)
                        self.assertIs(is_best((word,), power), False)


class Closed(unittest.TestCase):
    def check(self, words):
        told = closed_up(words)
        self.assertEqual(told, own_closed(words))
        self.assertIs(is_closed_up(words), told == words)
        self.assertIs(is_closed_up(told), True)
        self.assertEqual(closed_up(told), told)
        lowest = lowest_words(words)
        self.assertEqual(list(lowest), [word for word in words if not any(word in own_above(x) for x in words)])
        self.assertEqual(closed_up(lowest), told)
        return told == words

    def test_all_sets_of_few_letters(self):
        closed = 0
        for n, m in lots_up_to(4) + [(1, 4), (4, 1)]:
            words = own_words(n, m)
            for many in range(1, len(words) + 1):
                for told in combinations(words, many):
                    closed += self.check(told)
        self.assertGreater(closed, 20)

    def test_drawn_sets(self):
        rng = random.Random(4)
        for n, m in lots_up_to(10):
            for _ in range(3):
                self.check(drawn_set(rng, n, m))
            self.assertIs(self.check(all_words(n, m)), True)

    def test_the_ends(self):
        for n, m in lots_up_to(10):
            highest, lowest = (0,) * n + (1,) * m, (1,) * m + (0,) * n
            self.assertEqual(closed_up((highest,)), (highest,))
            self.assertEqual(closed_up(words=(lowest,)), all_words(n, m))
            self.assertEqual(lowest_words(words=all_words(n, m)), (lowest,))
            self.assertIs(is_closed_up(words=(lowest,)), False)

    def test_that_closed_sets_have_at_least_their_sureness(self):
        # F to the power k, k from 1 on, is nowhere above F.
        rng = random.Random(5)
        for n, m in lots_up_to(8):
            words = closed_up(drawn_set(rng, n, m))
            for power in (one, two, (3, 2)):
                self.assertGreaterEqual(number(set_power(words, power)), number(set_sureness(words)))

    def test_that_the_other_way_about_does_not_hold(self):
        # The b at the second and at the fourth place of four, as the document has it.
        words = ((0, 0, 0, 1), (0, 1, 0, 0))
        self.assertIs(is_closed_up(words), False)
        for k in range(1, 30):
            self.assertGreaterEqual(number(set_power(words, pair(Fraction(k + 9, 10)))), Fraction(1, 2))


class WrongWords(RaisingCase):
    def wrong(self, words, index):
        for function in (set_sureness, is_closed_up, closed_up, lowest_words):
            self.raises_index(InvalidWords, index, function, words)
            self.raises_index(InvalidWords, index, function, words=words)
        for function in (set_power, is_best):
            self.raises_index(InvalidWords, index, function, words, two)
            self.raises_index(InvalidWords, index, function, power=None, words=words)

    def test_no_tuple(self):
        for thing in odd_things() + deepest_things():
            if type(thing) is not tuple or len(thing) == 0:
                self.wrong(thing, None)
        for words in ((), [(0, 1)], [(0, 1), (1, 0)], {(0, 1): 1}, {(0, 1)}, "01"):
            self.wrong(words, None)

    def test_the_first_that_is_no_word(self):
        for thing in not_words():
            self.wrong((thing,), 0)
            self.wrong((thing, (0, 1), thing), 0)
            self.wrong(((0, 1), thing), 1)
            self.wrong(((0, 1), (1, 0), thing, (0, 1)), 2)

    def test_words_of_unlike_numbers_of_letters(self):
        self.wrong(((0, 1), (0, 1, 1)), 1)
        self.wrong(((0, 0, 1), (0, 1, 0), (0, 1, 1)), 2)
        self.wrong(((0, 1, 1), (1, 0, 0)), 1)
        self.wrong(((0, 1), (1, 0), (1, 0, 0)), 2)
        self.wrong(((0, 0, 1, 1), (0, 1), (0, 1, 0, 1)), 1)

    def test_words_that_do_not_ascend(self):
        self.wrong(((0, 1), (0, 1)), 1)
        self.wrong(((1, 0), (0, 1)), 1)
        self.wrong(((0, 0, 1), (0, 1, 0), (0, 1, 0)), 2)
        self.wrong(((0, 0, 1), (1, 0, 0), (0, 1, 0)), 2)
        self.wrong(((0, 1), (1, 0), (0, 1)), 2)
        self.wrong(((1, 0), (0, 1), None), 1)
        self.wrong(all_words(5, 5) + ((1,) * 5 + (0,) * 5,), 252)
        self.assertEqual(set_sureness(all_words(5, 5)), one)


class WrongArguments(RaisingCase):
    def test_word(self):
        for thing in not_words():
            self.raises_given(InvalidWord, thing, word_chance, thing, one)
            self.raises_given(InvalidWord, thing, word_chance, power=None, word=thing)

    def test_power(self):
        for thing in not_fractions() + deepest_things() + [nil, (-1, 1), (-1, 2), (-BIG, 1), (-1, BIG)]:
            self.raises_given(InvalidFraction, thing, word_chance, (0, 1), thing)
            self.raises_given(InvalidFraction, thing, word_chance, power=thing, word=(1, 0))
            self.raises_given(InvalidFraction, thing, set_power, ((0, 1),), thing)
            self.raises_given(InvalidFraction, thing, is_best, power=thing, words=((0, 1),))
            self.raises_given(InvalidFraction, thing, best_words, 1, 1, 2, thing)
            self.raises_given(InvalidFraction, thing, best_words, power=thing, many=1, m=9, n=1)

    def test_n_and_m(self):
        for thing in not_counts() + [10, 11]:
            self.raises_given(InvalidNumber, thing, best_words, thing, 1, 1, one)
            self.raises_given(InvalidNumber, thing, best_words, power=None, many=None, m=None, n=thing)
        for n in range(1, 10):
            for thing in not_counts() + [11 - n, 10, 11]:
                self.raises_given(InvalidNumber, thing, best_words, n, thing, 1, one)
                self.raises_given(InvalidNumber, thing, best_words, power=None, many=None, m=thing, n=n)

    def test_many(self):
        for n, m in lots_up_to(10):
            most = comb(n + m, m)
            for thing in not_counts() + [most + 1, most + 2, 10 ** 6]:
                self.raises_given(InvalidNumber, thing, best_words, n, m, thing, one)
            self.raises_given(InvalidNumber, most + 1, best_words, power=None, many=most + 1, m=m, n=n)
            self.assertEqual(best_words(n, m, most, two), all_words(n, m))

    def test_that_the_first_wrong_argument_is_told(self):
        self.raises_given(InvalidNumber, 10, best_words, 10, 0, 0, nil)
        self.raises_given(InvalidNumber, 0, best_words, 9, 0, 0, nil)
        self.raises_given(InvalidNumber, 11, best_words, 9, 1, 11, nil)
        self.raises_given(InvalidWord, two, word_chance, two, nil)
        self.raises_index(InvalidWords, 1, set_power, ((0, 1), nil[:1]), nil)
