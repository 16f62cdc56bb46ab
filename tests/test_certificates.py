import random
import unittest
from fractions import Fraction
from math import comb

from anydraws.bands import even_band
from anydraws.centres import centre_sureness
from anydraws.certificates import (
    certify_band, certify_best, certify_centre, certify_closed, certify_further, certify_held, certify_least,
    certify_places, certify_possible, certify_shift,
)
from anydraws.checker import accepts
from anydraws.errors import (
    InvalidBand, InvalidClaims, InvalidFraction, InvalidGroups, InvalidNumber, InvalidSaying, InvalidShare,
    InvalidWish, InvalidWords,
)
from anydraws.sayings import is_possible
from anydraws.shifts import shift_sureness
from anydraws.words import all_words, best_words, closed_up, is_best, is_closed_up, word_chance
from tests.claims import FUNCTIONS, GROUPS, HIGH, LOW, OPPOSITES, PLACES, WIDE, falling, middle, never, own_accepts
from tests.drawn import (
    deepest_things, drawn_band, drawn_inner_share, drawn_saying, drawn_share, drawn_stretches, lots_up_to, nil,
    not_counts, not_fractions, not_numbers_from_nought, not_shares, not_wishes, number, odd_things, one, own_words,
    pair, wide_band,
)
from tests.raising import RaisingCase

less, half, third, two = (-1, 1), (1, 2), (1, 3), (2, 1)
TINY = Fraction(1, 10 ** 90)
BIG = 10 ** 399


class CertificateCase(unittest.TestCase):
    def check(self, function, arguments, kind, other):
        """That it certifies this kind of the two that exclude one another; the paper is told."""
        told = function(*arguments)
        self.assertIs(type(told), tuple)
        self.assertEqual(len(told), 2)
        claim, paper = told
        self.assertIs(type(claim), tuple)
        self.assertEqual(claim[0], kind, arguments)
        self.assertGreaterEqual(len(claim), 1 + len(arguments))
        for part, argument in zip(claim[1:], arguments):
            self.assertIs(part, argument)
        self.assertIs(accepts(claim, paper), True, told)
        self.assertIs(own_accepts(claim, paper), True, told)
        self.assertEqual(function(*arguments), told)
        if other is not None:
            self.assertEqual(len(claim), 1 + len(arguments))
            self.assertIs(accepts((other,) + claim[1:], paper), False)
            self.assertIs(accepts((other,) + claim[1:], ()), False)
        return paper


class Examples(unittest.TestCase):
    def test_certificates(self):
        told = [certify_least(middle, (1, 4)), certify_centre(3, 1, 6), accepts(*certify_possible(never))]
        self.assertEqual(told, [(("at least", (((-1, 1), (1, 1), (-1, 1)),), (1, 4)), ()),
                                (("centre", 3, 1, 6, (3, 4)), ()), True])

    def test_the_papers_told_by_the_document(self):
        self.assertIs(accepts(("possible", middle), ((1, 5), (3, 5), (1, 5))), True)
        self.assertIs(accepts(("possible", middle), ((1, 4), half, (1, 4))), False)


class Possible(CertificateCase):
    def test_drawn_sayings(self):
        rng = random.Random(1)
        seen = {True: 0, False: 0}
        for _ in range(150):
            saying = drawn_saying(rng, rng.randint(1, 8))
            possible = is_possible(saying)
            seen[possible] += 1
            kinds = ("possible", "impossible") if possible else ("impossible", "possible")
            self.check(certify_possible, (saying,), *kinds)
        self.assertGreater(min(seen.values()), 30)

    def test_rows_that_are_just_opposite(self):
        self.check(certify_possible, (never,), "impossible", "possible")
        self.check(certify_possible, (middle,), "possible", "impossible")
        self.check(certify_possible, (falling,), "possible", "impossible")
        self.check(certify_possible, (((nil, less),),), "impossible", "possible")
        near = ((one, less), (pair(TINY - 1), one))
        self.check(certify_possible, (near,), "possible", "impossible")
        beyond = ((one, less), (pair(-TINY - 1), one))
        self.check(certify_possible, (beyond,), "impossible", "possible")

    def test_papers_of_large_numbers(self):
        rng = random.Random(2)
        for many in (2, 8):
            saying = tuple(tuple(pair(Fraction(rng.randint(-BIG, BIG), rng.randint(BIG // 2, BIG))) for _ in range(5))
                           for _ in range(many))
            kinds = ("possible", "impossible") if is_possible(saying) else ("impossible", "possible")
            self.check(certify_possible, (saying,), *kinds)


class Shares(CertificateCase):
    def around(self, function, kind, *arguments):
        chance = number(FUNCTIONS[kind](*arguments))
        for share in (chance, chance + TINY, chance - TINY, Fraction(1), TINY, Fraction(2, 5)):
            if 0 < share <= 1 or (share == 0 and kind in ("at least", "sure band")):
                kinds = (kind, OPPOSITES[kind]) if share <= chance else (OPPOSITES[kind], kind)
                self.assertEqual(self.check(function, (*arguments, pair(share)), *kinds), ())

    def test_sayings(self):
        rng = random.Random(3)
        for saying in [middle, falling, never] + [drawn_saying(rng, rng.randint(1, 4)) for _ in range(30)]:
            self.around(certify_least, "at least", saying)
            self.check(certify_least, (saying, nil), "at least", "less")

    def test_bands(self):
        rng = random.Random(4)
        bands = [WIDE, ((half, half), (one, one))] + [even_band(n, (1, 3)) for n in range(1, 9)]
        for band in bands + [wide_band(rng, rng.randint(1, 8)) for _ in range(12)] + [drawn_band(rng, 2)]:
            self.around(certify_band, "sure band", band)
            self.check(certify_band, (band, nil), "sure band", "less sure")

    def test_places(self):
        rng = random.Random(5)
        self.around(certify_places, "places", 2, PLACES)
        for n in range(1, 9):
            for many in range(1, 5):
                claims = tuple((drawn_inner_share(rng),) + drawn_stretches(rng, n, 1)[0] for _ in range(many))
                self.around(certify_places, "places", n, claims)

    def test_held(self):
        rng = random.Random(6)
        self.around(certify_held, "held", 2, GROUPS)
        for n in (1, 2, 5, 18, 40):
            for many in range(1, min(3, n + 1) + 1):
                groups = tuple((i, j, pair(number(drawn_share(rng)) / 3)) for i, j in drawn_stretches(rng, n, many))
                self.around(certify_held, "held", n, groups)

    def test_further(self):
        rng = random.Random(7)
        for n, m in ((2, 2), (1, 0), (1, 40), (6, 9), (40, 40)):
            for many in range(1, min(3, n + 1) + 1):
                groups = tuple((i, j, rng.randint(0, m // 3)) for i, j in drawn_stretches(rng, n, many))
                self.around(certify_further, "further", n, m, groups)


class Words(CertificateCase):
    def drawn_sets(self, rng):
        for n, m in lots_up_to(10):
            words = own_words(n, m)
            for many in (1, 2, len(words) // 2, len(words)):
                if 1 <= many <= len(words):
                    yield n, m, tuple(sorted(rng.sample(words, many)))

    def test_closed(self):
        rng = random.Random(8)
        for n, m, words in self.drawn_sets(rng):
            for told in (words, closed_up(words)):
                closed = is_closed_up(told)
                kinds = ("closed up", "not closed up") if closed else ("not closed up", "closed up")
                paper = self.check(certify_closed, (told,), *kinds)
                self.assertEqual(paper == (), closed)

    def test_best(self):
        rng = random.Random(9)
        seen = {True: 0, False: 0}
        for n, m, words in self.drawn_sets(rng):
            for power in (one, rng.choice((two, half, (3, 2)))):
                for told in (words, best_words(n, m, len(words), power)):
                    best = is_best(told, power)
                    seen[best] += 1
                    kinds = ("best", "not best") if best else ("not best", "best")
                    paper = self.check(certify_best, (told, power), *kinds)
                    if best:
                        least = min(number(word_chance(word, power)) for word in told)
                        self.assertLessEqual(number(paper), least)
        self.assertGreater(min(seen.values()), 50)

    def test_a_power_of_four_hundred_figures(self):
        for power in ((BIG, 1), (1, BIG), (BIG + 1, BIG)):
            self.check(certify_best, (all_words(2, 3), power), "best", "not best")
            self.check(certify_best, (best_words(2, 3, 4, power), power), "best", "not best")
            worst = best_words(2, 3, 9, power)
            left = tuple(word for word in all_words(2, 3) if word not in worst)
            self.check(certify_best, (left, power), "not best", "best")


class Moved(CertificateCase):
    def test_shifts(self):
        rng = random.Random(10)
        for n, m in lots_up_to(6) + [(19, 1), (1, 19), (10, 10), (7, 12)]:
            for _ in range(3):
                i = rng.randint(0, n * m)
                j = rng.randint(i + 1, n * m + 1)
                self.assertEqual(self.check(certify_shift, (n, m, i, j), "shift", None), ())
                claim, _ = certify_shift(n, m, i, j)
                self.assertEqual(claim, ("shift", n, m, i, j, shift_sureness(n, m, i, j)))
                for other in (number(claim[-1]) + TINY, number(claim[-1]) - TINY):
                    self.assertIs(accepts(claim[:-1] + (pair(other),), ()), False)
        self.assertEqual(certify_shift(2, 2, 1, 4), (("shift", 2, 2, 1, 4, (2, 3)), ()))

    def test_centres(self):
        rng = random.Random(11)
        for n in range(1, 21):
            many = n * (n + 1) // 2
            for _ in range(3):
                i = rng.randint(0, many)
                j = rng.randint(i + 1, many + 1)
                self.assertEqual(self.check(certify_centre, (n, i, j), "centre", None), ())
                claim, _ = certify_centre(n, i, j)
                self.assertEqual(claim, ("centre", n, i, j, centre_sureness(n, i, j)))


class WrongArguments(RaisingCase):
    def test_sayings(self):
        row = (one, less)
        for wrong, index in ((None, None), ((), None), ([row], None), ((row, None), 1), (((nil, nil),), 0),
                             ((row,) * 9, 8), (((one,),), 0), ((row, (one,) * 3), 1), ((row, (one, (2, 2))), 1)):
            self.raises_index(InvalidSaying, index, certify_possible, wrong)
            self.raises_index(InvalidSaying, index, certify_possible, saying=wrong)
            self.raises_index(InvalidSaying, index, certify_least, wrong, half)
            self.raises_index(InvalidSaying, index, certify_least, share=None, saying=wrong)
        for thing in odd_things() + deepest_things():
            if type(thing) is not tuple or len(thing) == 0:
                self.raises_index(InvalidSaying, None, certify_possible, thing)
                self.raises_index(InvalidSaying, None, certify_least, thing, None)

    def test_bands(self):
        for wrong, index in ((None, None), ((), None), (((nil,), (one,)), None), (((nil,) * 10, (one,) * 10), None),
                             (((nil, two), (one, one)), 0), (((nil, nil), (two, one)), 1),
                             (((nil, one), [one, one]), None)):
            self.raises_index(InvalidBand, index, certify_band, wrong, half)
            self.raises_index(InvalidBand, index, certify_band, share=None, band=wrong)
        for thing in odd_things() + deepest_things():
            if type(thing) is not tuple:
                self.raises_index(InvalidBand, None, certify_band, thing, None)

    def test_share(self):
        for thing in not_shares() + deepest_things():
            self.raises_given(InvalidShare, thing, certify_least, middle, thing)
            self.raises_given(InvalidShare, thing, certify_least, share=thing, saying=never)
            self.raises_given(InvalidShare, thing, certify_band, WIDE, thing)
            self.raises_given(InvalidShare, thing, certify_band, share=thing, band=((half, half), (one, one)))
        for share in (nil, one):
            self.assertEqual(certify_least(middle, share)[0][2], share)
            self.assertEqual(certify_band(WIDE, share)[0][2], share)

    def test_wish(self):
        for thing in not_wishes():
            self.raises_given(InvalidWish, thing, certify_places, 2, PLACES, thing)
            self.raises_given(InvalidWish, thing, certify_places, wish=thing, claims=PLACES, count=2)
            self.raises_given(InvalidWish, thing, certify_held, 2, GROUPS, thing)
            self.raises_given(InvalidWish, thing, certify_held, wish=thing, groups=GROUPS, count=2)
            self.raises_given(InvalidWish, thing, certify_further, 2, 2, ((0, 1, 1),), thing)
            self.raises_given(InvalidWish, thing, certify_further, wish=thing, groups=((0, 1, 1),), further=2, count=2)

    def test_count_and_further(self):
        for thing in not_counts() + [41, 10 ** 6]:
            self.raises_given(InvalidNumber, thing, certify_places, thing, PLACES, half)
            self.raises_given(InvalidNumber, thing, certify_places, wish=None, claims=None, count=thing)
            self.raises_given(InvalidNumber, thing, certify_held, thing, GROUPS, half)
            self.raises_given(InvalidNumber, thing, certify_held, wish=None, groups=None, count=thing)
            self.raises_given(InvalidNumber, thing, certify_further, thing, 2, ((0, 1, 1),), half)
            self.raises_given(InvalidNumber, thing, certify_further, wish=None, groups=None, further=None, count=thing)
        self.raises_given(InvalidNumber, 9, certify_places, 9, PLACES, half)
        for thing in not_numbers_from_nought() + [41, 10 ** 6]:
            self.raises_given(InvalidNumber, thing, certify_further, 2, thing, ((0, 1, 0),), half)
            self.raises_given(InvalidNumber, thing, certify_further, wish=None, groups=None, further=thing, count=2)
        self.assertEqual(certify_places(8, ((half, 0, 9),), one)[0][0], "places")
        self.assertEqual(certify_held(40, ((0, 41, one),), one)[0][0], "held")
        self.assertEqual(certify_further(40, 40, ((0, 41, 40),), one)[0][0], "further")
        self.assertEqual(certify_further(1, 0, ((0, 1, 0),), one)[0][0], "further")

    def test_claims_and_groups(self):
        place, group = (half, 1, 2), (0, 1, nil)
        for wrong, index in ((None, None), ((), None), ([place], None), ((place,) * 5, None), ((place, None), 1),
                             (((half, 2, 2),), 0), (((one, 1, 2),), 0), ((place, (half, 0, 4)), 1)):
            self.raises_index(InvalidClaims, index, certify_places, 2, wrong, half)
            self.raises_index(InvalidClaims, index, certify_places, wish=None, claims=wrong, count=2)
        for wrong, index in ((None, None), ((), None), ([group], None), ((group,) * 4, None), ((group, None), 1),
                             (((2, 2, nil),), 0), (((0, 1, two),), 0), ((group, group), 1),
                             (((0, 1, half), (1, 2, (2, 3))), 1)):
            self.raises_index(InvalidGroups, index, certify_held, 2, wrong, half)
            self.raises_index(InvalidGroups, index, certify_held, wish=None, groups=wrong, count=2)
        group = (0, 1, 1)
        for wrong, index in ((None, None), ((), None), ([group], None), ((group,) * 4, None), ((group, None), 1),
                             (((2, 2, 0),), 0), (((0, 1, half),), 0), (((0, 1, -1),), 0), ((group, group), 1),
                             ((group, (1, 2, 2)), 1), (((0, 1, 3),), 0)):
            self.raises_index(InvalidGroups, index, certify_further, 2, 2, wrong, half)
            self.raises_index(InvalidGroups, index, certify_further, wish=None, groups=wrong, further=2, count=2)

    def test_words_and_power(self):
        for wrong, index in ((None, None), ((), None), ([HIGH], None), ((HIGH, HIGH), 1), ((LOW, HIGH), 1),
                             ((HIGH, (1, 0)), 1), (((0, 0),), 0), ((HIGH, None), 1), (((True, 0),), 0)):
            self.raises_index(InvalidWords, index, certify_closed, wrong)
            self.raises_index(InvalidWords, index, certify_closed, words=wrong)
            self.raises_index(InvalidWords, index, certify_best, wrong, two)
            self.raises_index(InvalidWords, index, certify_best, power=None, words=wrong)
        for thing in odd_things() + deepest_things():
            if type(thing) is not tuple:
                self.raises_index(InvalidWords, None, certify_closed, thing)
                self.raises_index(InvalidWords, None, certify_best, thing, None)
        for thing in not_fractions() + deepest_things() + [nil, less, (-1, 2)]:
            self.raises_given(InvalidFraction, thing, certify_best, (HIGH,), thing)
            self.raises_given(InvalidFraction, thing, certify_best, power=thing, words=(LOW,))

    def test_shifts_and_centres(self):
        for thing in not_counts() + [20, 21]:
            self.raises_given(InvalidNumber, thing, certify_shift, thing, 1, 0, 1)
            self.raises_given(InvalidNumber, thing, certify_shift, j=None, i=None, m=None, n=thing)
            self.raises_given(InvalidNumber, thing, certify_shift, 1, thing, 0, 1)
            self.raises_given(InvalidNumber, thing, certify_shift, j=None, i=None, m=thing, n=1)
        self.raises_given(InvalidNumber, 11, certify_shift, 10, 11, 0, 1)
        for thing in not_counts() + [21, 22]:
            self.raises_given(InvalidNumber, thing, certify_centre, thing, 0, 1)
            self.raises_given(InvalidNumber, thing, certify_centre, j=None, i=None, n=thing)
        for thing in not_numbers_from_nought() + [7, 8]:
            self.raises_given(InvalidNumber, thing, certify_shift, 2, 3, thing, None)
            self.raises_given(InvalidNumber, thing, certify_centre, 3, thing, None)
        for i in (0, 3, 6):
            for thing in not_counts() + [i, i - 1, 8, 9]:
                self.raises_given(InvalidNumber, thing, certify_shift, 2, 3, i, thing)
                self.raises_given(InvalidNumber, thing, certify_shift, j=thing, i=i, m=3, n=2)
                self.raises_given(InvalidNumber, thing, certify_centre, 3, i, thing)
                self.raises_given(InvalidNumber, thing, certify_centre, j=thing, i=i, n=3)
        self.assertEqual(certify_shift(j=7, i=6, m=3, n=2)[0][-1], (1, comb(5, 2)))
        self.assertEqual(certify_centre(j=7, i=6, n=3)[0][-1], (1, 8))


class Calls(unittest.TestCase):
    def test_by_name(self):
        self.assertEqual(certify_possible(saying=middle), certify_possible(middle))
        self.assertEqual(certify_least(share=half, saying=middle), certify_least(middle, half))
        self.assertEqual(certify_band(share=half, band=WIDE), certify_band(WIDE, half))
        told = certify_places(wish=half, claims=PLACES, count=2)
        self.assertEqual(told, certify_places(2, PLACES, half))
        self.assertEqual(certify_held(wish=half, groups=GROUPS, count=2), certify_held(2, GROUPS, half))
        groups = ((0, 1, 1),)
        told = certify_further(wish=half, groups=groups, further=1, count=3)
        self.assertEqual(told, certify_further(3, 1, groups, half))
        self.assertEqual(certify_closed(words=(LOW,)), certify_closed((LOW,)))
        self.assertEqual(certify_best(power=two, words=(LOW,)), certify_best((LOW,), two))
