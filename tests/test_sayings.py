import random
import unittest
from fractions import Fraction
from itertools import permutations
from math import comb, factorial

from anydraws.errors import InvalidSaying
from anydraws.sayings import (
    barring_weights, greatest_closed, inner_blocks, is_possible, is_saying, least_open, mirrored_saying,
    saying_chance,
)
from tests.drawn import (
    counted_chance, deepest_things, drawn_fraction, drawn_row, drawn_saying, drawn_share, is_told_fraction,
    not_fractions, number, odd_things, opposite, pair, row_sum, times,
)

nil, one, less, half, third = (0, 1), (1, 1), (-1, 1), (1, 2), (1, 3)
two, three = (2, 1), (3, 1)
middle, falling, never = ((less, one, less),), ((one, less, nil), (nil, one, less)), ((one, less), (less, one))

TAKING_A_SAYING = [
    saying_chance, is_possible, inner_blocks, barring_weights, greatest_closed, least_open, mirrored_saying,
]


def chance(saying):
    return number(saying_chance(saying))


def row_of(*numbers):
    return tuple(pair(n) for n in numbers)


def power_above_nought(x, exponent):
    return x ** exponent if x > 0 else Fraction(0)


def unlike_row_chance(row):
    """The sum of [9] for a row of which no two numbers are the same."""
    numbers = [number(h) for h in row]
    n = len(row) - 1
    total = Fraction(0)
    for j, h in enumerate(numbers):
        if h > 0:
            under = Fraction(1)
            for i, other in enumerate(numbers):
                if i != j:
                    under *= h - other
            total += h ** n / under
    return total


def like_row_chance(row):
    """The same sum as a divided difference of x^n above 0, which is told for like numbers, too."""
    numbers = sorted(number(h) for h in row)
    n = len(row) - 1

    def difference(low, high):
        if numbers[low] == numbers[high]:
            step = high - low
            return comb(n, step) * power_above_nought(numbers[low], n - step)
        rise = difference(low + 1, high) - difference(low, high - 1)
        return rise / (numbers[high] - numbers[low])

    return difference(0, n)


def box_rows(lows, highs):
    """The rows of [13] for u_i >= l and u_i <= h."""
    n = len(lows)
    rows = []
    for i in range(n):
        low, high = number(lows[i]), number(highs[i])
        rows.append(row_of(*[1 - low if j <= i else -low for j in range(n + 1)]))
        rows.append(row_of(*[high - 1 if j <= i else high for j in range(n + 1)]))
    return tuple(row for row in rows if any(n != 0 for n, _ in row))


def cut_chance(saying):
    """The chance by cutting the body of all blocks into pieces with one corner more than numbers.

    A piece with corners on both sides of a row is parted at a point of the edge between two such,
    so its share is parted as that edge is.
    """
    count = len(saying[0])
    corners = [tuple(Fraction(int(j == k)) for j in range(count)) for k in range(count)]
    pieces = [(Fraction(1), corners)]
    for row in saying:
        kept = []
        while pieces:
            share, corners = pieces.pop()
            sums = [row_sum(row, [(x, 1) for x in corner]) for corner in corners]
            over, under = sums.index(max(sums)), sums.index(min(sums))
            if sums[under] >= 0:
                kept.append((share, corners))
            elif sums[over] > 0:
                part = sums[over] / (sums[over] - sums[under])
                cut = tuple(x + (y - x) * part for x, y in zip(corners[over], corners[under]))
                pieces.append((share * part, [cut if k == under else at for k, at in enumerate(corners)]))
                pieces.append((share * (1 - part), [cut if k == over else at for k, at in enumerate(corners)]))
        pieces = kept
    return sum((share for share, _ in pieces), Fraction(0))


class Examples(unittest.TestCase):
    def test_chances(self):
        told = [saying_chance(middle), saying_chance(falling), saying_chance(never)]
        told += [saying_chance((((2, 3), (-1, 3)),)), saying_chance(((one, (3, 1), (-2, 1)),))]
        self.assertEqual(told, [(1, 4), (1, 6), (0, 1), (2, 3), (11, 15)])

    def test_blocks_and_weights(self):
        told = [is_possible(middle), inner_blocks(never), barring_weights(middle), barring_weights(never) is None]
        told += [is_saying(((nil, nil),)), is_saying(((one,),))]
        self.assertEqual(told, [True, None, None, False, False, False])

    def test_readings(self):
        told = [greatest_closed(middle), least_open(middle), greatest_closed(((less, less),))]
        told += [least_open(((one, (3, 1), (2, 1)),)), mirrored_saying(((one, (3, 1), (-2, 1)),))]
        self.assertEqual(told, [1, 0, 0, 1, (((-2, 1), (3, 1), (1, 1)),)])


class SingleRows(unittest.TestCase):
    def test_unlike_numbers_against_the_sum(self):
        rng = random.Random(1)
        done = 0
        while done < 200:
            row = drawn_row(rng, rng.randint(2, 5))
            if len(set(row)) == len(row):
                self.assertEqual(chance((row,)), unlike_row_chance(row), row)
                done += 1

    def test_like_numbers_against_the_divided_difference(self):
        rng = random.Random(2)
        for _ in range(300):
            few = [drawn_fraction(rng) for _ in range(rng.randint(1, 3))] + [nil]
            row = tuple(rng.choice(few) for _ in range(rng.randint(2, 5)))
            if any(n != 0 for n, _ in row):
                self.assertEqual(chance((row,)), like_row_chance(row), row)

    def test_two_unlike_numbers_against_throws(self):
        # a at r places, - b at the others: r blocks hold b / (a + b) of n + 1 as an even in order does.
        for n in range(1, 5):
            for r in range(1, n + 1):
                for a, b in ((1, 1), (2, 1), (1, 3), (5, 7)):
                    row = row_of(*([a] * r + [-b] * (n + 1 - r)))
                    p = Fraction(b, a + b)
                    told = sum(comb(n, k) * p ** k * (1 - p) ** (n - k) for k in range(r))
                    for places in set(permutations(row)):
                        self.assertEqual(chance((places,)), told)

    def test_a_row_and_its_opposite(self):
        rng = random.Random(3)
        for _ in range(200):
            row = drawn_row(rng, rng.randint(2, 5))
            self.assertEqual(chance((row,)) + chance((opposite(row),)), 1, row)

    def test_rows_of_one_sign(self):
        for n in range(1, 5):
            self.assertEqual(saying_chance(((one,) * (n + 1),)), one)
            self.assertEqual(saying_chance(((less,) * (n + 1),)), nil)
            self.assertEqual(saying_chance((row_of(*range(n + 1)),)), one)
            self.assertEqual(saying_chance((row_of(*range(-n, 1)),)), nil)

    def test_the_size_of_one_block(self):
        # A block is at least p with (1 - p)^n.
        for n in range(1, 5):
            for p in (Fraction(1, 3), Fraction(1, 2), Fraction(5, 7)):
                for k in range(n + 1):
                    row = row_of(*[1 - p if j == k else -p for j in range(n + 1)])
                    self.assertEqual(chance((row,)), (1 - p) ** n)

    def test_numbers_of_four_hundred_figures(self):
        big = 10 ** 399
        row = ((big, 1), (-big - 1, 3))
        self.assertEqual(chance((row,)), unlike_row_chance(row))
        row = ((big + 1, big), (-1, big - 1), (1 - big, 1), (1, 7), (big // 3, big + 9))
        self.assertTrue(is_saying((row,)))
        self.assertEqual(chance((row,)), unlike_row_chance(row))
        rows = (row, row[::-1], opposite(row))
        self.assertEqual(chance(rows), 0)
        self.assertEqual(chance(rows[:2]), chance((row,)) - chance((row, opposite(row[::-1]))))


class SeveralRows(unittest.TestCase):
    def test_orders_of_blocks(self):
        for n in range(1, 5):
            for order in permutations(range(n + 1)):
                rows = []
                for a, b in zip(order, order[1:]):
                    rows.append(row_of(*[(j == a) - (j == b) for j in range(n + 1)]))
                self.assertEqual(saying_chance(tuple(rows)), (1, factorial(n + 1)))

    def test_the_greatest_and_the_least_block(self):
        for n in range(1, 5):
            for k in range(n + 1):
                others = [j for j in range(n + 1) if j != k]
                rows = tuple(row_of(*[(i == k) - (i == j) for i in range(n + 1)]) for j in others)
                self.assertEqual(saying_chance(rows), (1, n + 1))
                self.assertEqual(saying_chance(tuple(opposite(row) for row in rows)), (1, n + 1))

    def test_all_blocks_at_least_so_great(self):
        # All n + 1 blocks are at least p with (1 - (n + 1) p)^n.
        for n in range(1, 5):
            for p in (Fraction(1, 20), Fraction(1, 9), Fraction(1, n + 1), Fraction(1, 2)):
                rows = tuple(row_of(*[1 - p if j == k else -p for j in range(n + 1)]) for k in range(n + 1))
                self.assertEqual(chance(rows), max(0, 1 - (n + 1) * p) ** n)

    def test_no_block_greater_than_half(self):
        # The n + 1 pieces of a stick make a polygon.
        for n in range(1, 5):
            rows = tuple(row_of(*[-1 if j == k else 1 for j in range(n + 1)]) for k in range(n + 1))
            self.assertEqual(chance(rows), 1 - Fraction(n + 1, 2 ** n))

    def test_against_cutting(self):
        rng = random.Random(20)
        above = 0
        for rows in range(1, 9):
            for count in range(2, 6):
                for low in (-5, -3, -1):
                    saying = drawn_saying(rng, rows, count, low=low)
                    told = chance(saying)
                    self.assertEqual(told, cut_chance(saying), saying)
                    above += told > 0
        self.assertGreater(above, 50)

    def test_few_numbers_against_cutting(self):
        # Sides that meet, lie on one another or only touch the body.
        rng = random.Random(21)
        kinds = {0: 0, 1: 0}
        for _ in range(200):
            count = rng.randint(2, 5)
            rows = [[rng.choice((-1, 0, 1, 1, 2)) for _ in range(count)] for _ in range(rng.randint(1, 6))]
            saying = tuple(row_of(*row) for row in rows if any(row))
            if saying:
                self.assertEqual(chance(saying), cut_chance(saying), saying)
                kinds[chance(saying) > 0] += 1
        self.assertGreater(min(kinds.values()), 20)

    def test_that_a_row_parts_a_saying(self):
        rng = random.Random(4)
        for _ in range(150):
            saying = drawn_saying(rng, rows=rng.randint(1, 7))
            row = drawn_row(rng, len(saying[0]))
            parts = chance(saying + (row,)) + chance((opposite(row),) + saying)
            self.assertEqual(parts, chance(saying), (saying, row))

    def test_that_all_signs_of_rows_together_are_sure(self):
        rng = random.Random(5)
        for _ in range(20):
            rows = drawn_saying(rng, rows=3)
            total = Fraction(0)
            for signs in range(8):
                total += chance(tuple(row if signs >> k & 1 else opposite(row) for k, row in enumerate(rows)))
            self.assertEqual(total, 1)

    def test_boxes_against_counting(self):
        rng = random.Random(6)
        kinds = {0: 0, 1: 0}
        for _ in range(200):
            n = rng.randint(1, 4)
            lows = tuple(drawn_share(rng, 6) for _ in range(n))
            highs = tuple(drawn_share(rng, 6) for _ in range(n))
            if rng.random() < 0.7:
                lows = tuple(times(lows, Fraction(1, 2)))
                highs = tuple(pair(1 - number(high) / 2) for high in highs)
            told = counted_chance(lows, highs)
            self.assertEqual(chance(box_rows(lows, highs)), told, (lows, highs))
            kinds[told > 0] += 1
        self.assertGreater(min(kinds.values()), 20)

    def test_rows_in_another_order_doubled_and_times_an_amount(self):
        rng = random.Random(7)
        for _ in range(60):
            saying = drawn_saying(rng)
            told = saying_chance(saying)
            self.assertEqual(saying_chance(saying[::-1]), told)
            mixed = list(saying)
            rng.shuffle(mixed)
            self.assertEqual(saying_chance(tuple(mixed)), told)
            amount = Fraction(rng.randint(1, 30), rng.randint(1, 30))
            self.assertEqual(saying_chance(tuple(times(row, amount) for row in saying)), told)
            if len(saying) < 8:
                self.assertEqual(saying_chance(saying + (saying[0],)), told)
                self.assertEqual(saying_chance((times(saying[-1], amount),) + saying), told)

    def test_one_row_eight_times(self):
        for row in (middle[0], (one, less), (two, nil, less, three, (-7, 2))):
            self.assertEqual(saying_chance((row,) * 8), saying_chance((row,)))
            self.assertEqual(saying_chance(tuple(times(row, k) for k in range(1, 9))), saying_chance((row,)))

    def test_a_further_row_that_is_a_sum(self):
        rng = random.Random(8)
        for _ in range(80):
            saying = drawn_saying(rng, rows=rng.randint(1, 7))
            amounts = [rng.randint(0, 3) for _ in saying]
            places = range(len(saying[0]))
            total = [sum(a * number(row[j]) for a, row in zip(amounts, saying)) for j in places]
            if any(total):
                self.assertEqual(saying_chance(saying + (row_of(*total),)), saying_chance(saying))

    def test_a_further_row_that_all_blocks_keep(self):
        rng = random.Random(9)
        for _ in range(60):
            saying = drawn_saying(rng, rows=rng.randint(1, 7))
            sure = drawn_row(rng, len(saying[0]), low=0)
            self.assertEqual(saying_chance(saying + (sure,)), saying_chance(saying))
            self.assertEqual(saying_chance(saying + (opposite(drawn_row(rng, len(saying[0]), low=1)),)), nil)

    def test_places_exchanged_alike(self):
        rng = random.Random(10)
        for _ in range(40):
            saying = drawn_saying(rng)
            told = saying_chance(saying)
            places = list(range(len(saying[0])))
            for _ in range(4):
                rng.shuffle(places)
                moved = tuple(tuple(row[p] for p in places) for row in saying)
                self.assertEqual(saying_chance(moved), told)
            self.assertEqual(saying_chance(mirrored_saying(saying)), told)

    def test_sayings_that_only_touch(self):
        # They hold where a sum is just 0, and nowhere else: no chance.
        for saying in (
            never, ((one, less, nil), (nil, one, less), (less, nil, one)), ((less, nil, nil),),
            ((less, less, nil),), ((one, less, nil, nil, nil), (less, one, nil, nil, nil)),
            ((less, nil, nil, nil, nil), (one, one, less, less, less)),
            ((nil, less, nil), (two, one, less), (less, two, half)),
        ):
            self.assertEqual(saying_chance(saying) == nil, inner_blocks(saying) is None)
        self.assertEqual(saying_chance(((less, nil, nil),)), nil)
        self.assertEqual(saying_chance(((one, less, nil), (nil, one, less), (less, nil, one))), nil)

    def test_that_it_is_told_as_a_fraction(self):
        rng = random.Random(11)
        for _ in range(60):
            told = saying_chance(drawn_saying(rng))
            self.assertTrue(is_told_fraction(told))
            self.assertTrue(0 <= told[0] <= told[1])


class BlocksAndWeights(unittest.TestCase):
    def check(self, saying):
        blocks, weights = inner_blocks(saying), barring_weights(saying)
        self.assertNotEqual(blocks is None, weights is None)
        self.assertIs(is_possible(saying), weights is None)
        self.assertEqual(saying_chance(saying) == nil, weights is not None)
        if weights is None:
            self.assertIs(type(blocks), tuple)
            self.assertEqual(len(blocks), len(saying[0]))
            self.assertTrue(all(is_told_fraction(block) and block[0] > 0 for block in blocks))
            self.assertEqual(sum(number(block) for block in blocks), 1)
            self.assertTrue(all(row_sum(row, blocks) > 0 for row in saying))
        else:
            self.assertIs(type(weights), tuple)
            self.assertEqual(len(weights), len(saying))
            self.assertTrue(all(is_told_fraction(weight) and weight[0] >= 0 for weight in weights))
            self.assertTrue(any(weight[0] > 0 for weight in weights))
            for place in range(len(saying[0])):
                column = [row[place] for row in saying]
                self.assertLessEqual(row_sum(column, weights), 0)
        return weights is None

    def test_drawn_sayings(self):
        rng = random.Random(12)
        kinds = {True: 0, False: 0}
        for rows in range(1, 9):
            for count in range(2, 6):
                for _ in range(10):
                    kinds[self.check(drawn_saying(rng, rows, count))] += 1
        self.assertGreater(min(kinds.values()), 50)

    def test_sayings_with_few_numbers(self):
        # Noughts and like numbers make sums that are just 0.
        rng = random.Random(13)
        kinds = {True: 0, False: 0}
        for _ in range(400):
            count = rng.randint(2, 5)
            rows = [[rng.choice((-1, 0, 0, 1)) for _ in range(count)] for _ in range(rng.randint(1, 8))]
            rows = [row_of(*row) for row in rows if any(row)]
            if rows:
                kinds[self.check(tuple(rows))] += 1
        self.assertGreater(min(kinds.values()), 50)

    def test_sums_that_are_just_nought(self):
        rng = random.Random(14)
        for _ in range(60):
            saying = drawn_saying(rng, rows=rng.randint(1, 7))
            amounts = [rng.randint(1, 3) for _ in saying]
            places = range(len(saying[0]))
            total = [sum(a * number(row[j]) for a, row in zip(amounts, saying)) for j in places]
            if any(total):
                self.assertFalse(self.check(saying + (opposite(row_of(*total)),)))

    def test_blocks_hardly_possible(self):
        # Only blocks close to the even ones keep to the first saying, and none to the second one.
        for big in (10, 10 ** 20, 10 ** 398):
            self.assertTrue(self.check((((big + 1, big), less), (less, ((big + 1, big))))))
            self.assertFalse(self.check((((big - 1, big), less), (less, one))))

    def test_rows_of_unlike_sizes(self):
        rng = random.Random(15)
        for _ in range(60):
            saying = drawn_saying(rng)
            self.check(tuple(times(row, Fraction(10) ** rng.randint(-60, 60)) for row in saying))

    def test_examples(self):
        self.assertTrue(self.check(middle))
        self.assertTrue(self.check(falling))
        self.assertFalse(self.check(never))


class Readings(unittest.TestCase):
    def read(self, row, closed):
        """The row's sum for the distribution with one atom: F(X_i) is 1, F(X_i -) is 0."""
        total = number(row[-1])
        for before, after in zip(row, row[1:]):
            rise = number(before) - number(after)
            at_atom = (rise > 0) == closed
            total += rise * (1 if at_atom else 0)
        return total

    def test_against_the_readings_for_one_atom(self):
        rng = random.Random(16)
        seen = {}
        for _ in range(300):
            saying = drawn_saying(rng, rows=rng.randint(1, 3))
            closed = int(all(self.read(row, True) >= 0 for row in saying))
            opened = int(all(self.read(row, False) >= 0 for row in saying))
            self.assertEqual((greatest_closed(saying), least_open(saying)), (closed, opened), saying)
            self.assertIs(type(greatest_closed(saying)), int)
            self.assertIs(type(least_open(saying)), int)
            seen[closed, opened] = True
        self.assertEqual(sorted(seen), [(0, 0), (1, 0), (1, 1)])

    def test_sums_of_just_nought(self):
        self.assertEqual(greatest_closed((row_of(0, -1, 0, -1),)), 1)
        self.assertEqual(greatest_closed((row_of(0, -1, 0, Fraction(-11, 10)),)), 1)
        self.assertEqual(greatest_closed((row_of(-1, 0, -1, -2),)), 1)
        self.assertEqual(greatest_closed((row_of(-1, 0, Fraction(-1, 2), -2),)), 1)
        self.assertEqual(greatest_closed((row_of(-3, -2, -4, -1),)), 1)
        self.assertEqual(greatest_closed((row_of(-3, -2, -4, Fraction(-1, 2)),)), 1)
        self.assertEqual(greatest_closed((row_of(-1, -1, -1),)), 0)
        self.assertEqual(greatest_closed((row_of(-1, -2, -2),)), 0)
        self.assertEqual(greatest_closed((row_of(0, -2, -2),)), 1)
        self.assertEqual(greatest_closed((row_of(Fraction(-1, 10 ** 30), -2, -2),)), 0)
        self.assertEqual(least_open((row_of(1, 3, 2),)), 1)
        self.assertEqual(least_open((row_of(1, 3, Fraction(19, 10)),)), 0)
        self.assertEqual(least_open((row_of(3, 0, 0),)), 1)
        self.assertEqual(least_open((row_of(-1, 3, 4),)), 0)
        self.assertEqual(least_open((row_of(0, 3, 4),)), 1)

    def test_that_impossible_sayings_are_read_too(self):
        self.assertEqual((greatest_closed(never), least_open(never)), (1, 0))
        self.assertEqual((greatest_closed(((less, nil),)), least_open(((less, nil),))), (1, 0))

    def test_that_all_rows_count(self):
        good, bad = row_of(1, 3, 2), row_of(-1, -1, -1)
        self.assertEqual([greatest_closed((good, bad)), greatest_closed((bad, good))], [0, 0])
        self.assertEqual([least_open((good, bad)), least_open((bad, good))], [0, 0])
        self.assertEqual([greatest_closed((good,) * 8), least_open((good,) * 8)], [1, 1])

    def test_mirrored(self):
        rng = random.Random(17)
        for _ in range(30):
            saying = drawn_saying(rng)
            told = mirrored_saying(saying)
            self.assertEqual(told, tuple(tuple(reversed(row)) for row in saying))
            self.assertTrue(is_saying(told))
            self.assertEqual(mirrored_saying(told), saying)
        self.assertEqual(mirrored_saying(never), ((less, one), (one, less)))


class Calls(unittest.TestCase):
    def test_by_name_and_again(self):
        rng = random.Random(18)
        for _ in range(10):
            saying = drawn_saying(rng)
            for function in TAKING_A_SAYING:
                again = tuple(tuple((n, m) for n, m in row) for row in saying)
                self.assertEqual(function(saying=saying), function(again))
                self.assertEqual(saying, again)
        self.assertIs(is_saying(value=middle), True)

    def test_kinds_of_answers(self):
        self.assertIs(is_possible(middle), True)
        self.assertIs(is_possible(never), False)
        self.assertIs(is_saying(1), False)
        self.assertIsNone(inner_blocks(never))
        self.assertIsNone(barring_weights(middle))


class WrongSayings(unittest.TestCase):
    def wrong(self, saying, index):
        self.assertIs(is_saying(saying), False)
        for function in TAKING_A_SAYING:
            for call in (lambda: function(saying), lambda: function(saying=saying)):
                with self.assertRaises(InvalidSaying) as caught:
                    call()
                self.assertEqual(caught.exception.index, index, saying)
                self.assertIsNot(type(caught.exception.index), bool)

    def test_no_tuple(self):
        for thing in odd_things() + deepest_things():
            if type(thing) is not tuple or len(thing) == 0:
                self.wrong(thing, None)
        self.wrong([(one, less)], None)
        self.wrong((), None)
        self.wrong({0: (one, less)}, None)

    def test_the_first_wrong_row(self):
        good = (one, less, nil)
        for bad in (
            [one, less, nil], (), (one,), (one, less), (one, less, nil, nil), (nil, nil, nil), (one,) * 6, one,
            None, 1, "abc", (one, less, [0, 1]), (one, less, (0, 2)), (one, (True, 1), nil), (one, less, None),
            ((2, 4), one, one), ((one, less, nil),), (one, less, (1, 0)), (one, less, (-1, -1)),
        ):
            for k in range(1, 8):
                self.wrong((good,) * k + (bad,), k)
                self.wrong((good,) * k + (bad, bad), k)
                self.wrong((good,) * (k - 1) + (bad,) + (good,) * (8 - k) if k > 1 else (good, bad), max(k - 1, 1))

    def test_the_first_row(self):
        for bad in (
            [one, less], (), (one,), (one,) * 6, (nil,), (nil, nil), (nil,) * 5, (nil,) * 6, one, None, 1, "ab",
            (one, 1), (one, (0, 2)), ((True, 1), one), (one, [1, 1]),
        ):
            self.wrong((bad,), 0)
            self.wrong((bad, (one, less)), 0)
            self.wrong((bad,) * 9, 0)

    def test_numbers_that_are_no_fractions(self):
        for thing in not_fractions():
            self.wrong(((thing, one),), 0)
            self.wrong(((one, thing),), 0)
            self.wrong(((one, less), (one, thing)), 1)
            self.wrong(((one,) * 5, (one,) * 4 + (thing,)), 1)

    def test_the_ninth_row(self):
        row = (one, less)
        self.assertIs(is_saying((row,) * 8), True)
        self.wrong((row,) * 9, 8)
        self.wrong((row,) * 12, 8)
        self.wrong((row,) * 300, 8)
        self.wrong((row,) * 8 + (None,), 8)
        self.wrong((row,) * 7 + (None,) + (row,), 7)
        self.wrong((row, (one, less, nil)) + (row,) * 7, 1)

    def test_the_number_of_numbers(self):
        for count in range(2, 6):
            self.assertIs(is_saying(((one,) * count,)), True)
        for count in (0, 1, 6, 7, 300):
            self.wrong(((one,) * count,), 0)

    def test_that_noughts_are_let_beside_others(self):
        self.assertIs(is_saying(((nil, one),)), True)
        self.assertIs(is_saying(((nil, nil, nil, nil, less),)), True)
        self.wrong(((nil, one), (nil, nil)), 1)


class IsSaying(unittest.TestCase):
    def test_that_sayings_are_some(self):
        rng = random.Random(19)
        for _ in range(60):
            self.assertIs(is_saying(drawn_saying(rng)), True)
        self.assertIs(is_saying((((10 ** 399, 1), (1, 10 ** 399)),)), True)

    def test_that_nothing_else_is_one(self):
        for thing in odd_things() + deepest_things():
            self.assertIs(is_saying(thing), False)
            self.assertIs(is_saying((thing,)), False)
            self.assertIs(is_saying((thing, (one, less))), False)
            self.assertIs(is_saying(((one, less), thing)), False)
            self.assertIs(is_saying([thing]), False)
