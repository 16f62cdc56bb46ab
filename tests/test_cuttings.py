import random
import unittest
from collections import Counter
from fractions import Fraction
from itertools import combinations, permutations
from math import comb

from anydraws.cuttings import block_chance, block_counts, block_of, cut, left_out_blocks
from anydraws.errors import InvalidNumber, InvalidRow, InvalidRows, InvalidRules
from anydraws.further import further_chance
from tests.drawn import (
    deepest_things, drawn_fraction, is_told_fraction, not_counts, not_fractions, not_numbers_from_nought, number,
    odd_things, pair,
)
from tests.raising import RaisingCase

nil, half, one, two, three = (0, 1), (1, 2), (1, 1), (2, 1), (3, 1)
some, some_rules = ((nil, nil), (two, one), (one, three)), ((one, nil), (nil, one), ((-1, 1), nil))
BIG = 10 ** 399


def worth(row, rule):
    return sum((number(x) * number(y) for x, y in zip(row, rule)), Fraction(0))


def own_cut(rows, rules):
    """The rows as they go, each one found by asking for each row that is left whether it is the one."""
    left, gone = dict(enumerate(rows)), []
    for rule in rules:
        at = min(left, key=lambda index: (worth(left[index], rule), index))
        gone.append((at, worth(left.pop(at), rule)))
    return gone


def own_block(rows, rules, new):
    for t, ((_, least), rule) in enumerate(zip(own_cut(rows, rules), rules), 1):
        if worth(new, rule) <= least:
            return t
    return len(rows) + 1


def own_left_out(rows, rules):
    return [own_block(rows[:k] + rows[k + 1:], rules, rows[k]) for k in range(len(rows))]


def drawn_rows(rng, many, length, wide=True):
    """So many rows; if not wide, of so few numbers that many worths are alike."""
    if wide:
        return tuple(tuple(drawn_fraction(rng, -9, 9, 9) for _ in range(length)) for _ in range(many))
    return tuple(tuple(rng.choice((nil, one, half, (-1, 1))) for _ in range(length)) for _ in range(many))


def is_row_of_one(value):
    return len(value) == 1 and is_told_fraction(value[0])


def has_alike(rows, rules):
    return any(len({worth(row, rule) for row in rows}) < len(rows) for rule in rules)


def drawn_unlike(rng, many, rules, length):
    """So many rows, no two of which have one worth by one of so many rules, and the rules."""
    while True:
        rows, told = drawn_rows(rng, many, length), drawn_rows(rng, rules, length)
        if not has_alike(rows, told):
            return rows, told


class Examples(unittest.TestCase):
    def test_cuttings(self):
        told = [cut(some, some_rules), block_of(some, some_rules, ((-1, 1), (5, 1)))]
        told += [block_of(some, some_rules, new) for new in ((half, nil), (three, two), (half, two))]
        self.assertEqual(told, [((0, (0, 1)), (1, (1, 1)), (2, (-1, 1))), 1, 2, 3, 4])
        told = [left_out_blocks(some + ((half, two),), some_rules)]
        told += [block_counts(some, some_rules, ((half, nil), (half, two), (half, two)))]
        self.assertEqual(told, [(1, 2, 3, 4), (0, 1, 0, 2)])


class Cut(unittest.TestCase):
    def check(self, rows, rules):
        told = cut(rows, rules)
        self.assertIs(type(told), tuple)
        for step in told:
            self.assertIs(type(step), tuple)
            self.assertIs(type(step[0]), int)
            self.assertTrue(is_told_fraction(step[1]))
        self.assertEqual([(at, number(least)) for at, least in told], own_cut(rows, rules))
        self.assertEqual(sorted(at for at, _ in told), list(range(len(rows))))

    def test_drawn_rows(self):
        rng = random.Random(1)
        for many in range(1, 9):
            for length in range(1, 4):
                for wide in (True, False, False):
                    self.check(drawn_rows(rng, many, length, wide), drawn_rows(rng, many, length, wide))

    def test_that_of_several_the_one_with_the_least_index_goes(self):
        rows = ((one, nil), (nil, one), (nil, one), (one, nil), (nil, nil))
        rules = ((one, one), (one, nil), (nil, one), (nil, nil), (nil, nil))
        self.assertEqual(cut(rows, rules), ((4, nil), (1, nil), (0, nil), (2, nil), (3, nil)))
        same = ((half, half),) * 8
        self.assertEqual(cut(same, rules + rules[:3]), tuple((k, step[1]) for k, step in enumerate(
            ((0, one), (1, half), (2, half), (3, nil), (4, nil), (5, one), (6, half), (7, half)))))

    def test_numbers_of_four_hundred_figures(self):
        rows = (((BIG, BIG - 1), one), ((BIG + 1, BIG), one), ((1, BIG), (-1, BIG)))
        self.check(rows, ((one, (-1, 1)), ((BIG, 7), one), ((-1, BIG), (3, BIG + 1))))


class BlockOf(unittest.TestCase):
    def test_drawn_rows(self):
        rng = random.Random(2)
        seen = {}
        for many in range(1, 9):
            for length in range(1, 4):
                for wide in (True, False):
                    rows, rules = (drawn_rows(rng, many, length, wide) for _ in range(2))
                    for new in drawn_rows(rng, 6, length, wide) + rows:
                        told = block_of(rows, rules, new)
                        self.assertIs(type(told), int)
                        self.assertEqual(told, own_block(rows, rules, new), (rows, rules, new))
                        seen[told] = True
        self.assertEqual(len(seen), 9)

    def test_worths_just_at_that_of_the_row_that_went(self):
        rows, rules = ((one,), (three,)), ((one,), ((-1, 1),))
        # 1 goes first, then 3, with the worth -3.
        self.assertEqual([block_of(rows, rules, (new,)) for new in (nil, one, (10, 9), two, three, (4, 1))],
                         [1, 1, 3, 3, 2, 2])
        tiny = pair(1 + Fraction(1, BIG))
        self.assertEqual(block_of(rows, rules, (tiny,)), 3)

    def test_that_each_row_lies_in_the_block_in_which_it_went_or_before(self):
        rng = random.Random(3)
        for _ in range(20):
            rows, rules = drawn_unlike(rng, 6, 6, 2)
            for t, (at, _) in enumerate(cut(rows, rules), 1):
                self.assertEqual(block_of(rows, rules, rows[at]), t)


class LeftOutBlocks(unittest.TestCase):
    def test_without_alike_worths_each_block_comes_once(self):
        rng = random.Random(4)
        for many in range(2, 10):
            for length in range(1, 4):
                rows, rules = drawn_unlike(rng, many, many - 1, length)
                told = left_out_blocks(rows, rules)
                self.assertIs(type(told), tuple)
                self.assertEqual(list(told), own_left_out(rows, rules))
                self.assertEqual(sorted(told), list(range(1, many + 1)))

    def test_with_alike_worths(self):
        rng = random.Random(5)
        more = 0
        for many in range(2, 10):
            for length in range(1, 4):
                for _ in range(4):
                    rows, rules = drawn_rows(rng, many, length, False), drawn_rows(rng, many - 1, length, False)
                    told = left_out_blocks(rows, rules)
                    self.assertEqual(list(told), own_left_out(rows, rules))
                    for t in range(1, many + 1):
                        self.assertGreaterEqual(sum(1 for block in told if block <= t), t)
                    more += sorted(told) != list(range(1, many + 1))
        self.assertGreater(more, 20)

    def test_all_orders_of_the_rows(self):
        rng = random.Random(6)
        for wide in (True, False):
            rows, rules = (drawn_unlike(rng, 4, 3, 2) if wide else
                           (drawn_rows(rng, 4, 2, False), drawn_rows(rng, 3, 2, False)))
            last = Counter(block_of(order[:-1], rules, order[-1]) for order in permutations(rows))
            for t in range(1, 5):
                within = sum(last[block] for block in range(1, t + 1))
                self.assertGreaterEqual(Fraction(within, 24), Fraction(t, 4))
                if wide:
                    self.assertEqual(last[t], 6)

    def test_that_like_rows_lie_in_the_first_block(self):
        self.assertEqual(left_out_blocks(((half, one),) * 9, ((one, one),) * 8), (1,) * 9)
        self.assertEqual(left_out_blocks(((half,), (half,)), ((nil,),)), (1, 1))


class BlockCounts(unittest.TestCase):
    def test_drawn_rows(self):
        rng = random.Random(7)
        for many in range(1, 9):
            for length in range(1, 4):
                for wide in (True, False):
                    rows, rules = (drawn_rows(rng, many, length, wide) for _ in range(2))
                    more = drawn_rows(rng, rng.choice((0, 1, 5, 12)), length, wide)
                    told = block_counts(rows, rules, more)
                    self.assertIs(type(told), tuple)
                    blocks = Counter(own_block(rows, rules, new) for new in more)
                    self.assertEqual(list(told), [blocks[t] for t in range(1, many + 2)])
                    self.assertTrue(all(type(count) is int for count in told))

    def test_no_further_rows(self):
        self.assertEqual(block_counts(some, some_rules, ()), (0, 0, 0, 0))

    def test_that_all_ways_are_as_likely(self):
        rng = random.Random(8)
        for n, m, length in ((1, 3, 1), (2, 3, 2), (3, 3, 3), (4, 2, 2), (3, 4, 2), (5, 1, 1)):
            rows, rules = drawn_unlike(rng, n + m, n, length)
            found = Counter()
            for chosen in combinations(range(n + m), n):
                told = [rows[k] for k in chosen]
                rng.shuffle(told)
                others = tuple(rows[k] for k in range(n + m) if k not in chosen)
                found[block_counts(tuple(told), rules, others)] += 1
            ways = comb(n + m, m)
            self.assertEqual(len(found), ways)
            self.assertEqual(set(found.values()), {1})
            for g in range(n + 2):
                blocks = rng.sample(range(n + 1), g)
                within = Counter(sum(counts[block] for block in blocks) for counts in found)
                for r in range(m + 1):
                    self.assertEqual(number(block_chance(n, m, g, r)), Fraction(within[r], ways), (n, m, g, r))


class BlockChance(unittest.TestCase):
    def test_against_further_chance(self):
        for n in (1, 2, 5, 39, 40):
            for m in (0, 1, 6, 40):
                for g in {1, 2, n // 2 + 1, n, n + 1}:
                    if g <= n + 1:
                        for r in range(m + 1):
                            told = block_chance(n, m, g, r)
                            self.assertTrue(is_told_fraction(told))
                            self.assertEqual(told, further_chance(n, m, (0, g), r))

    def test_against_the_words_of_the_document(self):
        for n in (1, 3, 17, 40):
            for m in (0, 2, 40):
                for g in range(1, n + 1):
                    for r in range(m + 1):
                        told = Fraction(comb(r + g - 1, r) * comb(m - r + n - g, m - r), comb(n + m, m))
                        self.assertEqual(number(block_chance(n, m, g, r)), told)

    def test_no_blocks_and_all_of_them(self):
        for n in (1, 2, 40):
            for m in (0, 1, 7, 40):
                for r in range(m + 1):
                    self.assertEqual(block_chance(n, m, 0, r), one if r == 0 else nil)
                    self.assertEqual(block_chance(n, m, n + 1, r), one if r == m else nil)


class WrongRows(RaisingCase):
    def wrong(self, rows, index):
        if type(rows) is not tuple or len(rows) != 9:
            for function, more in ((cut, {}), (block_of, {"new": (one,)}), (block_counts, {"more": ()})):
                self.raises_index(InvalidRows, index, function, rows, some_rules, *more.values())
                self.raises_index(InvalidRows, index, function, rules=None, rows=rows, **more)
        if type(rows) is not tuple or len(rows) != 1:
            self.raises_index(InvalidRows, index, left_out_blocks, rows, some_rules)
            self.raises_index(InvalidRows, index, left_out_blocks, rules=None, rows=rows)

    def test_no_tuple_of_so_many(self):
        for thing in odd_things() + deepest_things():
            if type(thing) is not tuple or len(thing) == 0:
                self.wrong(thing, None)
        for rows in ((), list(some), {0: some[0]}, (some[0],) * 10, (None,) * 10, (some[0],) * 300):
            self.wrong(rows, None)
        for rows in (((one,),) * 9, (None,) * 9):
            for function, more in ((cut, ()), (block_of, ((one,),)), (block_counts, ((),))):
                self.raises_index(InvalidRows, None, function, rows, ((one,),) * 9, *more)
        for rows in (((one,),), (None,)):
            self.raises_index(InvalidRows, None, left_out_blocks, rows, ())

    def test_what_is_just_let(self):
        for many in (1, 8):
            rows = ((one,),) * many
            self.assertEqual(len(cut(rows, rows)), many)
            self.assertEqual(block_of(rows, rows, (one,)), 1)
            self.assertEqual(block_counts(rows, rows, rows), (many,) + (0,) * many)
        for many in (2, 9):
            rows = ((one,),) * many
            self.assertEqual(left_out_blocks(rows, rows[1:]), (1,) * many)

    def test_the_first_wrong_row(self):
        row = (half, one)
        wrong = [(), (one,) * 4, (one,) * 300, [one], [one, half], "ab", (one, None), (True, one), (one, [0, 1])]
        odd = [thing for thing in odd_things() if type(thing) is not tuple or not is_row_of_one(thing)]
        for bad in odd + deepest_things() + wrong + [(one, thing) for thing in not_fractions()]:
            self.wrong((bad, row), 0)
            self.wrong((bad, bad, bad), 0)
            self.wrong((row, bad), 1)
            self.wrong((row, row, bad, bad), 2)
            self.wrong((row,) * 7 + (bad,), 7)
            self.raises_index(InvalidRows, 0, cut, (bad,), (bad,))
            self.raises_index(InvalidRows, 8, left_out_blocks, (row,) * 8 + (bad,), (row,) * 8)

    def test_rows_of_unlike_lengths(self):
        rows = [(one,) * length for length in range(5)]
        for length in (1, 2, 3):
            for other in range(5):
                if other != length:
                    self.wrong((rows[length], rows[other]), 1)
                    self.wrong((rows[length], rows[length], rows[other], rows[length]), 2)
        self.wrong((rows[0], rows[0]), 0)
        self.wrong((rows[4], rows[4]), 0)


class WrongRules(RaisingCase):
    def wrong(self, rules, index, rows=some, left_out=some + some[:1]):
        for function, more in ((cut, {}), (block_of, {"new": None}), (block_counts, {"more": None})):
            self.raises_index(InvalidRules, index, function, rows, rules, *more.values())
            self.raises_index(InvalidRules, index, function, rules=rules, rows=rows, **more)
        self.raises_index(InvalidRules, index, left_out_blocks, left_out, rules)
        self.raises_index(InvalidRules, index, left_out_blocks, rules=rules, rows=left_out)

    def test_no_tuple_of_as_many(self):
        for thing in odd_things() + deepest_things():
            if type(thing) is not tuple or len(thing) != 3:
                self.wrong(thing, None)
        rule = some_rules[0]
        for rules in ((), (rule,), (rule,) * 2, (rule,) * 4, (None,) * 2, (None,) * 4, (rule,) * 300, [rule] * 3):
            self.wrong(rules, None)
        self.raises_index(InvalidRules, None, left_out_blocks, some, some_rules)
        self.raises_index(InvalidRules, None, left_out_blocks, some[:2], ())
        self.raises_index(InvalidRules, None, cut, some[:1], ())
        self.raises_index(InvalidRules, None, cut, some, some_rules[:2])

    def test_the_first_wrong_rule(self):
        rule = (half, one)
        wrong = [(), (one,), (one,) * 3, (one,) * 4, [one, one], "ab", (one, None), (True, one), (one, [0, 1])]
        for bad in odd_things() + deepest_things() + wrong + [(thing, one) for thing in not_fractions()]:
            self.wrong((bad, rule, rule), 0)
            self.wrong((bad, bad, bad), 0)
            self.wrong((rule, bad, bad), 1)
            self.wrong((rule, rule, bad), 2)


class WrongFurtherRows(RaisingCase):
    def test_new(self):
        for thing in odd_things() + deepest_things():
            if type(thing) is not tuple or len(thing) != 2:
                self.raises_index(InvalidRow, None, block_of, some, some_rules, thing)
        for new in ((), (one,), (one,) * 3, (None,), (None,) * 3, [one, one], (one,) * 300):
            self.raises_index(InvalidRow, None, block_of, some, some_rules, new)
            self.raises_index(InvalidRow, None, block_of, new=new, rules=some_rules, rows=some)
        for thing in not_fractions() + deepest_things():
            self.raises_index(InvalidRow, 0, block_of, some, some_rules, (thing, one))
            self.raises_index(InvalidRow, 0, block_of, some, some_rules, (thing, thing))
            self.raises_index(InvalidRow, 1, block_of, some, some_rules, (one, thing))
            self.raises_index(InvalidRow, 1, block_of, new=(one, thing), rules=some_rules, rows=some)

    def test_more(self):
        row = (half, one)
        for thing in odd_things() + deepest_things():
            if type(thing) is not tuple:
                self.raises_index(InvalidRows, None, block_counts, some, some_rules, thing)
                self.raises_index(InvalidRows, None, block_counts, more=thing, rules=some_rules, rows=some)
        wrong = [(), (one,), (one,) * 3, [one, one], "ab", (one, None), (True, one), (one, [0, 1])]
        for bad in odd_things() + deepest_things() + wrong + [(one, thing) for thing in not_fractions()]:
            for more, index in (((bad,), 0), ((bad, bad, row), 0), ((row, bad), 1), ((row,) * 11 + (bad, bad), 11)):
                self.raises_index(InvalidRows, index, block_counts, some, some_rules, more)
                self.raises_index(InvalidRows, index, block_counts, more=more, rules=some_rules, rows=some)

    def test_the_thirteenth_further_row(self):
        row = (half, one)
        self.assertEqual(sum(block_counts(some, some_rules, (row,) * 12)), 12)
        for more in ((row,) * 13, (row,) * 14, (row,) * 12 + (None,), (row,) * 300):
            self.raises_index(InvalidRows, 12, block_counts, some, some_rules, more)
        self.raises_index(InvalidRows, 3, block_counts, some, some_rules, (row,) * 3 + (None,) * 20)


class WrongNumbers(RaisingCase):
    def test_count_and_further(self):
        for thing in not_counts() + [41, 42, 10 ** 6]:
            self.raises_given(InvalidNumber, thing, block_chance, thing, 2, 1, 1)
            self.raises_given(InvalidNumber, thing, block_chance, within=None, number=None, further=None, count=thing)
        for thing in not_numbers_from_nought() + [41, 42, 10 ** 6]:
            self.raises_given(InvalidNumber, thing, block_chance, 40, thing, 1, 0)
            self.raises_given(InvalidNumber, thing, block_chance, within=None, number=None, further=thing, count=1)

    def test_number_and_within(self):
        for n in (1, 2, 39, 40):
            for thing in not_numbers_from_nought() + [n + 2, n + 3, 42]:
                self.raises_given(InvalidNumber, thing, block_chance, n, 3, thing, 0)
                self.raises_given(InvalidNumber, thing, block_chance, within=None, number=thing, further=3, count=n)
        for m in (0, 1, 39, 40):
            for thing in not_numbers_from_nought() + [m + 1, m + 2, 41]:
                self.raises_given(InvalidNumber, thing, block_chance, 5, m, 6, thing)
                self.raises_given(InvalidNumber, thing, block_chance, within=thing, number=0, further=m, count=5)

    def test_that_the_first_wrong_argument_is_told(self):
        self.raises_given(InvalidNumber, 0, block_chance, 0, -1, -2, -3)
        self.raises_given(InvalidNumber, -1, block_chance, 1, -1, -2, -3)
        self.raises_given(InvalidNumber, -2, block_chance, 1, 0, -2, -3)
        self.raises_given(InvalidNumber, -3, block_chance, 1, 0, 0, -3)
        self.raises_index(InvalidRows, 2, block_of, some[:2] + (None,), (), ())
        self.raises_index(InvalidRules, 2, block_counts, some, some_rules[:2] + (None,), None)


class Calls(unittest.TestCase):
    def test_by_name_and_again(self):
        rng = random.Random(9)
        for many in range(1, 9):
            rows, rules, more = (drawn_rows(rng, many, 2) for _ in range(3))
            kept = tuple(tuple(row) for row in rows)
            self.assertEqual(cut(rules=rules, rows=rows), cut(kept, rules))
            self.assertEqual(block_of(new=more[0], rules=rules, rows=rows), block_of(kept, rules, more[0]))
            self.assertEqual(block_counts(more=more, rules=rules, rows=rows), block_counts(kept, rules, more))
            self.assertEqual(left_out_blocks(rules=rules, rows=rows + more[:1]),
                             left_out_blocks(kept + more[:1], rules))
            self.assertEqual(block_chance(within=1, number=2, further=3, count=4), block_chance(4, 3, 2, 1))
            self.assertEqual(rows, kept)
