"""Words: the orders of two lots of draws, a's told by 0 and b's by 1, and sets of such orders."""

from itertools import combinations
from math import comb, factorial

from anydraws.checks import check_number, check_share, is_fraction, is_tuple, is_whole
from anydraws.errors import InvalidFraction, InvalidStair, InvalidWord, InvalidWords, NotApart
from anydraws.lots import check_counts_of_lots, check_lots
from anydraws.ratios import common_divisor, plus, powers, reduced, scaled

_MOST_LETTERS = 10
_NIL = (0, 1)


def is_word(value):
    if not is_tuple(value) or len(value) > _MOST_LETTERS:
        return False
    return all(is_letter(letter) for letter in value) and 0 in value and 1 in value


def is_letter(value):
    return is_whole(value) and 0 <= value <= 1


def check_word(word):
    if not is_word(word):
        raise InvalidWord(word)


def check_words(words):
    if not is_tuple(words) or len(words) == 0:
        raise InvalidWords(None)
    for k, word in enumerate(words):
        if not is_word(word) or letter_counts(word) != letter_counts(words[0]):
            raise InvalidWords(k)
        if k > 0 and word <= words[k - 1]:
            raise InvalidWords(k)


def check_power(power):
    if not is_fraction(power) or power[0] <= 0:
        raise InvalidFraction(power)


def check_stair(stair, letters):
    if not is_tuple(stair) or len(stair) != letters + 1 or not all(is_whole(step) for step in stair):
        raise InvalidStair(stair)


def letter_counts(word):
    """How many a's and how many b's the word has."""
    return word.count(0), word.count(1)


def all_words(n, m):
    check_counts_of_lots(n, m, _MOST_LETTERS)
    return tuple(words_in_order(n, m))


def words_in_order(n, m):
    # The places of the a's come in such an order that the words ascend.
    return [
        tuple([0 if k in places else 1 for k in range(n + m)])
        for places in combinations(range(n + m), n)
    ]


def words_beside(words):
    """All words with as many a's and b's as those of a set."""
    n, m = letter_counts(words[0])
    return words_in_order(n, m)


def word_of(first, second):
    check_lots(first, second, _MOST_LETTERS)
    whole = common_divisor(first + second)
    lows = scaled(first, whole)
    highs = scaled(second, whole)
    if any(value in highs for value in lows):
        raise NotApart()
    order = sorted([(value, 0) for value in lows] + [(value, 1) for value in highs])
    return tuple([letter for _, letter in order])


def pair_count(word):
    check_word(word)
    n, m = letter_counts(word)
    # The rank sum is the count and as much as the b's have where all of them are ahead.
    return sum_of_places(word) - m * (m + 1) // 2


def rank_sum(word):
    check_word(word)
    return sum_of_places(word)


def sum_of_places(word):
    return sum([k + 1 for k, letter in enumerate(word) if letter == 1])


def numbers_of_bs(word):
    """The numbers of b's among the first 0, 1, .. letters."""
    numbers = [0]
    for letter in word:
        numbers.append(numbers[-1] + letter)
    return numbers


def gap_of(word):
    check_word(word)
    n, m = letter_counts(word)
    apart = [abs((k - bs) * m - bs * n) for k, bs in enumerate(numbers_of_bs(word))]
    return reduced(max(apart), n * m)


def is_between(word, lows, highs):
    check_word(word)
    check_stair(lows, len(word))
    check_stair(highs, len(word))
    return all(low <= bs <= high for low, bs, high in zip(lows, numbers_of_bs(word), highs))


def stair_count(n, m, lows, highs):
    check_counts_of_lots(n, m, _MOST_LETTERS)
    check_stair(lows, n + m)
    check_stair(highs, n + m)
    return how_many_between(m, lows, highs)


def how_many_between(m, lows, highs):
    """How many words with m b's, and with as many letters as the stairs tell, lie between them."""
    ways = [1] + [0] * m
    for k, (low, high) in enumerate(zip(lows, highs)):
        if k > 0:
            ways = [here + before for here, before in zip(ways, [0] + ways)]
        ways = [here if low <= bs <= high else 0 for bs, here in enumerate(ways)]
    return ways[m]


def gap_sureness(n, m, gap):
    check_counts_of_lots(n, m, _MOST_LETTERS)
    check_share(gap)
    lows, highs = gap_stairs(n, m, gap)
    return reduced(how_many_between(m, lows, highs), comb(n + m, m))


def gap_stairs(n, m, gap):
    """The stairs between which the words of a gap of at most this one lie."""
    most = gap[0] * n * m // gap[1]
    lows, highs = [], []
    for k in range(n + m + 1):
        let = [bs for bs in range(m + 1) if abs((k - bs) * m - bs * n) <= most]
        lows.append(let[0] if let else m + 1)
        highs.append(let[-1] if let else 0)
    return lows, highs


def set_sureness(words):
    check_words(words)
    n, m = letter_counts(words[0])
    return reduced(len(words), comb(n + m, m))


def word_chance(word, power):
    check_word(word)
    check_power(power)
    return chance_of(word, power)


def set_power(words, power):
    check_words(words)
    check_power(power)
    total = _NIL
    for word in words:
        total = plus(total, chance_of(word, power))
    return total


def chance_of(word, power):
    n, m = letter_counts(word)
    k, whole = power
    above = factorial(n) * factorial(m) * powers(k, m)[m] * powers(whole, n)[n]
    return reduced(above, product_of_sums(word, power))


def product_of_sums(word, power):
    """The product below the line of [28], each weight times what makes the power whole.

    Above the line all words of two lots have the same; so a word is likelier with a lesser product.
    """
    k, whole = power
    worth, total = 1, 0
    for letter in word:
        total += k if letter == 1 else whole
        worth = worth * total
    return worth


def best_words(n, m, many, power):
    check_counts_of_lots(n, m, _MOST_LETTERS)
    check_number(many, comb(n + m, m))
    check_power(power)
    likeliest = sorted([(product_of_sums(word, power), word) for word in words_in_order(n, m)])
    return tuple(sorted([word for _, word in likeliest[:many]]))


def is_best(words, power):
    check_words(words)
    check_power(power)
    return likelier_pair(words, power) is None


def likelier_pair(words, power):
    """The pair of the least likely word of a set and the likeliest other one, if this is likelier."""
    within = {word: True for word in words}
    others = [word for word in words_beside(words) if word not in within]
    if not others:
        return None
    unlikely, worst = max([(product_of_sums(word, power), word) for word in words])
    likely, best = min([(product_of_sums(word, power), word) for word in others])
    return (worst, best) if likely < unlikely else None


def turned(word, ahead, behind):
    """The words that come of it by one neighbouring pair of these letters turned round."""
    return [
        word[:k] + (behind, ahead) + word[k + 2:]
        for k in range(len(word) - 1)
        if word[k] == ahead and word[k + 1] == behind
    ]


def just_above(word):
    return turned(word, 1, 0)


def just_below(word):
    return turned(word, 0, 1)


def is_closed_up(words):
    check_words(words)
    return open_pair(words) is None


def open_pair(words):
    """A pair of a word of the set and one just above it that is not within, or None."""
    within = {word: True for word in words}
    for word in words:
        for above in just_above(word):
            if above not in within:
                return (word, above)
    return None


def closed_up(words):
    check_words(words)
    within = {word: True for word in words}
    left = list(words)
    while left:
        word = left.pop()
        for above in just_above(word):
            if above not in within:
                within[above] = True
                left.append(above)
    return tuple(sorted(within))


def lowest_words(words):
    check_words(words)
    within = {word: True for word in words}
    return tuple([word for word in words if not any(below in within for below in just_below(word))])
