import random
import unittest
from fractions import Fraction

from anydraws.bands import even_band
from anydraws.checker import accepts
from anydraws.words import all_words, best_words, closed_up, word_chance
from tests.claims import (
    ACCEPTED, FUNCTIONS, GROUPS, HIGH, KINDS, LOW, OPPOSITES, PLACES, WIDE, falling, middle, never, own_accepts,
    part_at, places_in, with_part,
)
from tests.drawn import (
    Masked, Odd, deepest_things, drawn_band, drawn_fraction, drawn_inner_share, drawn_saying, drawn_share,
    drawn_stretches, is_told_fraction, lots_up_to, nested, nil, not_fractions, not_shares, not_wishes, number,
    odd_things, one, own_words, pair, wide_band,
)

less, half, third, two = (-1, 1), (1, 2), (1, 3), (2, 1)
TINY = Fraction(1, 10 ** 90)
BIG = 10 ** 399
NO_PAPERS = [None, [], {}, "", b"", 0, False, True, ((),), (nil,), nil, one, set(), range(0), Odd(), Masked(tuple)]


class CheckerCase(unittest.TestCase):
    def told(self, claim, paper, kept):
        self.assertIs(accepts(claim, paper), kept, (claim, paper))
        self.assertIs(accepts(paper=paper, claim=claim), kept)

    def takes(self, claim, paper=()):
        self.told(claim, paper, True)

    def refuses(self, claim, paper=()):
        self.told(claim, paper, False)


class Examples(CheckerCase):
    def test_of_the_document(self):
        told = [accepts(("possible", middle), ((1, 5), (3, 5), (1, 5)))]
        told += [accepts(("possible", middle), ((1, 4), half, (1, 4))), accepts(("less", middle, (1, 3)), ())]
        told += [accepts(("not best", ((1, 0, 1),), two), ((1, 0, 1), (0, 1, 1)))]
        told += [accepts(("best", ((0, 1, 1),), two), half)]
        told += [accepts(("not closed up", ((1, 0, 1),)), ((1, 0, 1), (0, 1, 1)))]
        self.assertEqual(told, [True, False, True, True, True, True])

    def test_one_of_each_kind(self):
        self.assertEqual({claim[0] for claim, _ in ACCEPTED}, set(KINDS))
        for claim, paper in ACCEPTED:
            self.takes(claim, paper)
            self.assertIs(own_accepts(claim, paper), True)


class Shares(CheckerCase):
    """Claims of a chance and a share: what reaches it, and what does not."""

    def check(self, kind, *arguments):
        chance = number(FUNCTIONS[kind](*arguments))
        opposite = OPPOSITES[kind]
        for share in {chance, chance + TINY, chance - TINY, Fraction(1), Fraction(1, 2), TINY}:
            if 0 < share <= 1 or (share == 0 and kind in ("at least", "sure band")):
                told = (*arguments, pair(share))
                reached = share <= chance
                self.told((kind, *told), (), reached)
                self.told((opposite, *told), (), not reached)
                for paper in NO_PAPERS:
                    self.refuses((kind, *told), paper)
                    self.refuses((opposite, *told), paper)
        return chance

    def test_sayings(self):
        rng = random.Random(1)
        chances = [self.check("at least", saying) for saying in (middle, falling, never)]
        chances += [self.check("at least", drawn_saying(rng, rng.randint(1, 4))) for _ in range(25)]
        self.assertGreater(len(set(chances)), 10)
        self.assertIn(0, chances)
        for saying in (middle, never):
            self.takes(("at least", saying, nil))
            self.refuses(("less", saying, nil))

    def test_bands(self):
        rng = random.Random(2)
        chances = [self.check("sure band", even_band(n, half)) for n in range(1, 9)]
        chances += [self.check("sure band", wide_band(rng, rng.randint(1, 8))) for _ in range(15)]
        chances += [self.check("sure band", drawn_band(rng, rng.randint(1, 3))) for _ in range(5)]
        self.assertGreater(len(set(chances)), 10)
        for band in (WIDE, ((half, half), (one, one)), even_band(8, one)):
            self.takes(("sure band", band, nil))
            self.refuses(("less sure", band, nil))
        self.takes(("less sure", ((half, half), (one, one)), pair(TINY)))

    def test_places(self):
        rng = random.Random(3)
        self.check("places", 2, PLACES)
        for n in range(1, 9):
            for many in (1, 2, 4):
                claims = tuple((drawn_inner_share(rng),) + drawn_stretches(rng, n, 1)[0] for _ in range(many))
                self.check("places", n, claims)

    def test_held(self):
        rng = random.Random(4)
        self.check("held", 2, GROUPS)
        for n in (1, 2, 3, 17, 40):
            for many in range(1, min(3, n + 1) + 1):
                groups = tuple((i, j, pair(number(drawn_share(rng)) / 3)) for i, j in drawn_stretches(rng, n, many))
                self.check("held", n, groups)

    def test_further(self):
        rng = random.Random(5)
        for n, m in ((2, 2), (1, 0), (3, 7), (17, 5), (40, 40)):
            for many in range(1, min(3, n + 1) + 1):
                groups = tuple((i, j, rng.randint(0, m // 3)) for i, j in drawn_stretches(rng, n, many))
                self.check("further", n, m, groups)

    def test_what_is_no_share_or_no_wish(self):
        for claim, _ in ACCEPTED:
            wrong = not_shares() if claim[0] in ("at least", "less", "sure band", "less sure") else not_wishes()
            if claim[0] in FUNCTIONS:
                for thing in wrong + [pair(1 + TINY), pair(-TINY)]:
                    self.refuses(claim[:-1] + (thing,))


class Sureness(CheckerCase):
    def test_shifts(self):
        rng = random.Random(6)
        for n, m in [(1, 1), (2, 2), (3, 4), (19, 1), (1, 19), (10, 10)]:
            counts = [0] * (n * m + 1)
            if n + m <= 10:
                for word in own_words(n, m):
                    pairs = sum(1 for j in range(n + m) for i in range(j) if (word[i], word[j]) == (1, 0))
                    counts[pairs] += 1
            for _ in range(5):
                i = rng.randint(0, n * m)
                j = rng.randint(i + 1, n * m + 1)
                if n + m <= 10:
                    self.exactly(("shift", n, m, i, j), Fraction(sum(counts[i:j]), sum(counts)))
            self.exactly(("shift", n, m, 0, n * m + 1), Fraction(1))

    def test_centres(self):
        for n in (1, 2, 5, 20):
            many = n * (n + 1) // 2
            self.exactly(("centre", n, 0, many + 1), Fraction(1))
            self.exactly(("centre", n, 0, 1), Fraction(1, 2 ** n))
            self.exactly(("centre", n, 1, many + 1), 1 - Fraction(1, 2 ** n))

    def exactly(self, claim, sureness):
        self.takes(claim + (pair(sureness),))
        for share in (sureness + TINY, sureness - TINY, 1 - sureness / 2, Fraction(0), Fraction(2, 7), -sureness):
            if share != sureness:
                self.refuses(claim + (pair(share),))
        for thing in not_fractions():
            self.refuses(claim + (thing,))
        for paper in NO_PAPERS:
            self.refuses(claim + (pair(sureness),), paper)


class Possible(CheckerCase):
    def test_drawn_blocks_and_weights(self):
        rng = random.Random(7)
        seen = {}
        for _ in range(400):
            saying = drawn_saying(rng, rng.randint(1, 3), rng.randint(2, 4))
            weights = [rng.randint(0, 4) for _ in saying[0]]
            blocks = tuple(pair(Fraction(weight, max(1, sum(weights)))) for weight in weights)
            kept = own_accepts(("possible", saying), blocks)
            self.told(("possible", saying), blocks, kept)
            bars = tuple(drawn_fraction(rng, rng.choice((0, 0, -1)), 2) for _ in saying)
            barred = own_accepts(("impossible", saying), bars)
            self.told(("impossible", saying), bars, barred)
            self.assertFalse(kept and barred)
            seen[(kept, barred)] = True
        self.assertEqual(len(seen), 3)

    def test_blocks_that_nearly_do(self):
        near = ((1, 4), half, (1, 4))
        self.refuses(("possible", middle), near)
        inner = pair(Fraction(1, 4) - TINY)
        self.takes(("possible", middle), (inner, pair(Fraction(1, 2) + 2 * TINY), inner))
        self.refuses(("possible", middle), (nil, one, nil))
        self.refuses(("possible", ((nil, one),)), (nil, one))
        self.refuses(("possible", middle), ((-1, 5), (7, 5), (-1, 5)))
        for wrong in (((1, 5), (3, 5), (2, 5)), ((1, 5), half, (1, 5)), ((1, 5), (4, 5)),
                      ((1, 5), (3, 5), (1, 5), nil)):
            self.refuses(("possible", middle), wrong)
        self.refuses(("possible", falling), ((1, 2), (1, 4), (1, 4)))
        self.refuses(("possible", falling), ((1, 4), (1, 2), (1, 4)))
        self.refuses(("possible", never), (half, half))
        for wrong in (((2, 10), (6, 10), (2, 10)), (), None, ((1, 5), (3, 5), [1, 5]), [(1, 5), (3, 5), (1, 5)]):
            self.refuses(("possible", middle), wrong)

    def test_weights_that_nearly_do(self):
        self.takes(("impossible", never), (half, half))
        self.takes(("impossible", ((less, nil),)), (one,))
        self.takes(("impossible", ((less, nil),)), ((1, BIG),))
        for wrong in ((nil, nil), (one, nil), (one, two), (less, less), (one,), (one, one, nil), (), one, [one, one]):
            self.refuses(("impossible", never), wrong)
        self.refuses(("impossible", ((less, one),)), (one,))
        self.refuses(("impossible", ((one, one), (less, one))), (less, one))
        self.refuses(("impossible", never), (one, pair(1 + TINY)))
        self.takes(("impossible", ((less, less), (one, nil))), (one, one))
        self.refuses(("impossible", ((less, less), (one, nil))), (one, pair(1 + TINY)))

    def test_that_no_other_paper_is_let(self):
        for paper in NO_PAPERS + [()]:
            self.refuses(("possible", middle), paper)
            self.refuses(("impossible", never), paper)


class Closed(CheckerCase):
    def test_all_sets_of_few_letters(self):
        rng = random.Random(8)
        for n, m in lots_up_to(4):
            words = own_words(n, m)
            for code in range(1, 2 ** len(words)):
                told = tuple(word for k, word in enumerate(words) if code >> k & 1)
                closed = closed_up(told) == told
                self.told(("closed up", told), (), closed)
                self.refuses(("not closed up", told))
                pairs = [(word, other) for word in words for other in words]
                for paper in pairs if len(words) < 5 else rng.sample(pairs, 5):
                    kept = own_accepts(("not closed up", told), paper)
                    self.told(("not closed up", told), paper, kept)
                    self.assertFalse(kept and closed)

    def test_pairs_that_nearly_do(self):
        claim = ("not closed up", ((0, 1, 1, 0), (1, 0, 1, 0)))
        self.takes(claim, ((0, 1, 1, 0), (0, 1, 0, 1)))
        self.takes(claim, ((1, 0, 1, 0), (1, 0, 0, 1)))
        for wrong in (
            ((1, 0, 1, 0), (0, 1, 1, 0)), ((0, 1, 0, 1), (0, 1, 1, 0)), ((1, 1, 0, 0), (1, 0, 0, 1)),
            ((1, 0, 1, 0), (0, 1, 0, 1)), ((1, 0, 1, 0), (1, 1, 0, 0)), ((1, 0, 1, 0), (0, 0, 1, 1)),
            ((1, 0, 1, 0),), ((1, 0, 1, 0), (1, 0, 0, 1), (1, 0, 0, 1)), (), [(1, 0, 1, 0), (1, 0, 0, 1)],
            ([1, 0, 1, 0], (1, 0, 0, 1)), ((1, 0, 1, 0), [1, 0, 0, 1]), ((1, 0, 1, 0), (True, 0, 0, 1)),
            ((True, 0, 1, 0), (1, 0, 0, 1)), ((1, 0, 1, 0), None), (None, (1, 0, 0, 1)), ((1, 0), (0, 1)),
        ):
            self.refuses(claim, wrong)
        for paper in NO_PAPERS:
            self.refuses(("closed up", (HIGH,)), paper)


class Best(CheckerCase):
    def test_drawn_sets(self):
        rng = random.Random(9)
        seen = {}
        for _ in range(300):
            n, m = rng.choice(lots_up_to(5))
            words, power = own_words(n, m), rng.choice((one, two, half, (3, 2)))
            told = tuple(sorted(rng.sample(words, rng.randint(1, len(words)))))
            if rng.random() < 0.5:
                told = best_words(n, m, len(told), power)
            chances = sorted(number(word_chance(word, power)) for word in words)
            edge = rng.choice(chances) + rng.choice((0, 0, TINY, -TINY))
            best = own_accepts(("best", told, power), pair(edge))
            self.told(("best", told, power), pair(edge), best)
            paper = (rng.choice(told), rng.choice(words))
            worse = own_accepts(("not best", told, power), paper)
            self.told(("not best", told, power), paper, worse)
            seen[(best, worse)] = True
            self.refuses(("best", told, power))
            self.refuses(("not best", told, power))
        self.assertEqual(len(seen), 3)

    def test_the_edge_between_the_words(self):
        # 8 / 15, 4 / 15 and 1 / 5: the edge is from one word's chance to the next one's.
        for paper, kept in (((8, 15), True), (half, True), ((4, 15), True), (pair(Fraction(8, 15) + TINY), False),
                            (pair(Fraction(4, 15) - TINY), False), (one, False), (nil, False)):
            self.told(("best", (HIGH,), two), paper, kept)
        for paper in ((1, 5), nil, less, (-BIG, 1)):
            self.takes(("best", all_words(1, 2), two), paper)
        self.refuses(("best", all_words(1, 2), two), pair(Fraction(1, 5) + TINY))
        self.takes(("best", all_words(1, 2), one), third)
        self.takes(("best", (LOW,), one), third)
        self.refuses(("best", (LOW,), one), pair(Fraction(1, 3) + TINY))
        self.refuses(("best", (LOW,), one), pair(Fraction(1, 3) - TINY))

    def test_pairs_that_nearly_do(self):
        claim = ("not best", (LOW, (1, 1, 0)), two)
        self.takes(claim, (LOW, HIGH))
        self.takes(claim, ((1, 1, 0), HIGH))
        for wrong in ((HIGH, LOW), (LOW, LOW), ((1, 1, 0), LOW), (LOW,), (LOW, HIGH, HIGH), (LOW, (0, 1)),
                      (LOW, (0, 0, 1)), (HIGH, HIGH), [LOW, HIGH], (list(LOW), HIGH), (LOW, list(HIGH)),
                      (LOW, (0, 1, True)), (LOW, None)):
            self.refuses(claim, wrong)
        self.refuses(("not best", (LOW,), two), (LOW, (1, 1, 0)))
        self.refuses(("not best", (LOW,), one), (LOW, HIGH))
        self.refuses(("not best", (LOW,), two), (LOW, (0, 0, 1)))
        self.takes(("not best", (LOW,), half), (LOW, (1, 1, 0)))

    def test_powers(self):
        for thing in not_fractions() + [nil, less, (-1, 2)]:
            self.refuses(("best", (HIGH,), thing), half)
            self.refuses(("not best", (LOW,), thing), (LOW, HIGH))
        for thing in not_fractions():
            self.refuses(("best", (HIGH,), two), thing)


class Bounds(CheckerCase):
    def test_sayings_and_bands(self):
        row = (one, two)
        for many, kept in ((1, True), (8, True), (9, False), (0, False)):
            self.told(("at least", (row,) * many, one), (), kept)
            self.told(("possible", (row,) * many), (half, half), kept)
            self.told(("impossible", ((less, less),) * many), (one,) * many, kept)
        for length, kept in ((1, False), (2, True), (5, True), (6, False)):
            self.told(("at least", ((one,) * length,), one), (), kept)
            self.told(("possible", ((one,) * length,)), ((1, length),) * length, kept)
        for n, kept in ((0, False), (1, True), (8, True), (9, False)):
            self.told(("sure band", ((nil,) * (n + 1), (one,) * (n + 1)), one), (), kept)
        self.refuses(("less", ((nil, nil),), one))
        self.refuses(("less", (row, (one, nil, nil)), one))

    def test_places_held_and_further(self):
        for n, kept in ((0, False), (1, True), (8, True), (9, False), (True, False), (40, False)):
            self.told(("places", n, ((half, 0, n + 1),), one), (), kept)
        for n, kept in ((0, False), (1, True), (40, True), (41, False), (True, False)):
            self.told(("held", n, ((0, n + 1, one),), one), (), kept)
            self.told(("further", n, 1, ((0, n + 1, 1),), one), (), kept)
        for m, kept in ((-1, False), (0, True), (40, True), (41, False), (False, False)):
            self.told(("further", 3, m, ((0, 4, max(0, m)),), one), (), kept)
        for many, kept in ((0, False), (1, True), (4, True), (5, False)):
            self.told(("places", 3, ((half, 0, 4),) * many, one), (), kept)
        for many, kept in ((0, False), (1, True), (3, True), (4, False)):
            self.told(("held", 9, tuple((k, k + 1, nil) for k in range(many)), one), (), kept)
            self.told(("further", 9, 2, tuple((k, k + 1, 0) for k in range(many)), one), (), kept)
        self.refuses(("held less", 2, ((0, 2, nil), (1, 3, nil)), one))
        self.refuses(("held less", 2, ((0, 1, half), (1, 3, (2, 3))), one))
        self.refuses(("further less", 2, 2, ((0, 2, 0), (1, 3, 0)), one))
        self.refuses(("further less", 2, 2, ((0, 1, 1), (1, 2, 2)), one))
        self.refuses(("places less", 2, ((one, 0, 1),), one))

    def test_words(self):
        for letters, kept in ((2, True), (10, True), (11, False)):
            highest = (0,) * (letters - 1) + (1,)
            above, word = highest[:-3] + (0, 0, 1) if letters > 2 else (0, 1), highest[:-2] + (1, 0)
            self.told(("closed up", (highest,)), (), kept)
            self.told(("not closed up", (word,)), (word, above), kept)
            self.told(("not best", (word,), two), (word, above), kept)
            edge = word_chance(highest, two) if kept else half
            self.told(("best", (highest,), two), edge, kept)
        for words in ((), (HIGH, HIGH), (LOW, HIGH), (HIGH, (0, 1)), ((0, 0), HIGH), (HIGH, (1, 0, 0)), [HIGH], None):
            self.refuses(("closed up", words))
            self.refuses(("not closed up", words), (LOW, HIGH))
            self.refuses(("best", words, two), half)
            self.refuses(("not best", words, two), (LOW, HIGH))

    def test_shifts_and_centres(self):
        for n, m, kept in ((1, 1, True), (10, 10, True), (19, 1, True), (1, 19, True), (10, 11, False), (20, 1, False),
                           (1, 20, False), (0, 1, False), (1, 0, False), (20, 20, False), (True, 1, False)):
            self.told(("shift", n, m, 0, n * m + 1, one), (), kept)
        for n, kept in ((0, False), (1, True), (20, True), (21, False), (True, False)):
            self.told(("centre", n, 0, n * (n + 1) // 2 + 1, one), (), kept)
        for i, j in ((0, 0), (1, 1), (3, 2), (-1, 2), (0, 6), (5, 6), (4, 4), (5, 5), (False, 5), (0, True)):
            for share in (nil, one, (1, 6)):
                self.refuses(("shift", 2, 2, i, j, share))
        for i, j in ((0, 0), (1, 1), (3, 2), (-1, 2), (0, 8), (7, 8), (7, 7), (False, 7), (0, True)):
            for share in (nil, one, (1, 8)):
                self.refuses(("centre", 3, i, j, share))


class BentParts(CheckerCase):
    def bent(self, claim, paper):
        """All places of the claim and the paper, with a function that puts another part there."""
        for at in places_in(claim):
            yield part_at(claim, at), at, lambda part, at=at: (with_part(claim, at, part), paper)
        for at in places_in(paper):
            yield part_at(paper, at), at, lambda part, at=at: (claim, with_part(paper, at, part))

    def test_a_list_for_a_tuple_and_a_truth_for_a_number(self):
        for claim, paper in ACCEPTED:
            for part, _, put in self.bent(claim, paper):
                if type(part) is tuple:
                    self.refuses(*put(list(part)))
                elif part in (0, 1):
                    self.refuses(*put(part == 1))
                if type(part) is int:
                    for other in (str(part), (part,), Fraction(part), complex(part), [part]):
                        self.refuses(*put(other))

    def test_fractions_not_in_their_least_terms(self):
        for claim, paper in ACCEPTED:
            for part, _, put in self.bent(claim, paper):
                # No words and no other pairs of numbers look like fractions here.
                if is_told_fraction(part):
                    n, m = part
                    for other in ((2 * n, 2 * m), (-n, -m), (BIG * n, BIG * m), (n, m, 1), (n,), (n, 0), Fraction(n, m)):
                        self.refuses(*put(other))

    def test_one_element_more_or_less(self):
        for claim, paper in ACCEPTED:
            for part in (None, (), nil, one, 0, 1, "more"):
                self.refuses(claim + (part,), paper)
                if len(paper) != 0 or part != ():
                    self.refuses(claim, paper + (part,))
            self.refuses(claim[:-1], paper)
            self.refuses(claim[1:], paper)
            self.refuses((claim,), paper)
            self.refuses(claim, (paper,))
            if paper:
                self.refuses(claim, paper[:-1])
                self.refuses(claim, paper[1:])

    def test_other_kinds(self):
        odd = ["", " ", "Possible", "possible ", "at  least", "atleast", "unlike", "sure", "none", "less\n", b"less"]
        for claim, paper in ACCEPTED:
            for kind in odd + odd_things() + [Masked(str), KINDS, (claim[0],), [claim[0]], claim[0].encode(), None]:
                self.refuses((kind,) + claim[1:], paper)
            for kind in KINDS:
                other = (kind,) + claim[1:]
                self.told(other, paper, own_accepts(other, paper))

    def test_things_of_any_kind(self):
        for claim, paper in ACCEPTED:
            for _, at, put in self.bent(claim, paper):
                deep = 14 - len(at)
                for thing in broken_things() + [nested(deep), nested(deep - 1, ()), [nested(deep - 1)],
                                                nested(deep - 1, []), (nested(deep - 1),) * 3]:
                    self.refuses(*put(thing))

    def test_things_in_the_place_of_all(self):
        things = odd_things() + deepest_things() + not_fractions() + KINDS
        for thing in things:
            self.refuses(thing, ())
            for other in (thing, None, Odd(), (), nested(14)):
                self.refuses(thing, other)
                self.refuses((thing,), other)
                self.refuses(("possible", thing), other)
        for claim, paper in ACCEPTED:
            for thing in things:
                if paper != () or type(thing) is not tuple or len(thing) != 0:
                    if not (type(thing) is tuple and own_accepts_plain(claim, thing)):
                        self.refuses(claim, thing)

    def test_drawn_bends(self):
        rng = random.Random(10)
        pool = [0, 1, 2, 3, -1, nil, one, half, third, (), HIGH, LOW, BIG, (0, 1, 1), (0, 1, nil), (1, 2, half)]
        counts = {True: 0, False: 0}
        for _ in range(6000):
            claim, paper = rng.choice(ACCEPTED)
            bends = list(self.bent(claim, paper))
            part, _, put = rng.choice(bends)
            how = rng.randrange(6)
            if type(part) is int:
                other = part + rng.choice((-2, -1, 1, 2))
            elif type(part) is str or how == 0:
                other = rng.choice(pool)
            elif how == 1 and part:
                k = rng.randrange(len(part))
                other = part[:k] + part[k + 1:]
            elif how == 2 and part:
                k = rng.randrange(len(part))
                other = part[:k] + (part[k],) + part[k:]
            elif how == 3:
                other = part[::-1]
            elif how == 4:
                other = part + (rng.choice(pool),)
            else:
                other = rng.choice(bends)[0]
            claim, paper = put(other)
            kept = own_accepts(claim, paper)
            counts[kept] += 1
            self.told(claim, paper, kept)
        self.assertGreater(min(counts.values()), 300)


def is_plain(thing):
    """Whether it is made of whole numbers and tuples alone, and not deep."""
    return len(repr(thing)) < 500 and repr(thing).strip("()-0123456789, ") == ""


def broken_things():
    """Things of any kind that can be no part of a claim or a paper."""
    return [thing for thing in odd_things() if not is_plain(thing)]


def own_accepts_plain(claim, paper):
    return is_plain(paper) and own_accepts(claim, paper)
