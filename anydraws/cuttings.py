"""Rows of fractions cut into blocks by rules, one row going behind the other."""

from anydraws.checks import check_number_within, is_fraction, is_tuple
from anydraws.errors import InvalidRow, InvalidRows, InvalidRules
from anydraws.further import check_counts
from anydraws.ratios import common_divisor, is_below, plus, scaled, times
from anydraws.spreads import chance_of_ways, within_ways

_MOST_ROWS = 8
_MOST_NUMBERS = 3
_MOST_FURTHER_ROWS = 12
_NIL = (0, 1)


def is_row_of(value, length):
    """Whether it is a row of just so many fractions."""
    return is_tuple(value) and len(value) == length and all(is_fraction(number) for number in value)


def check_rows(rows, least, most):
    if not is_tuple(rows) or not least <= len(rows) <= most:
        raise InvalidRows(None)
    for k, row in enumerate(rows):
        if not is_tuple(row) or not 1 <= len(row) <= _MOST_NUMBERS or not is_row_of(row, len(rows[0])):
            raise InvalidRows(k)


def check_rules(rules, how_many, length):
    if not is_tuple(rules) or len(rules) != how_many:
        raise InvalidRules(None)
    for k, rule in enumerate(rules):
        if not is_row_of(rule, length):
            raise InvalidRules(k)


def check_cutting(rows, rules):
    check_rows(rows, 1, _MOST_ROWS)
    check_rules(rules, len(rows), len(rows[0]))


def check_new(new, length):
    if not is_tuple(new) or len(new) != length:
        raise InvalidRow(None)
    for k, number in enumerate(new):
        if not is_fraction(number):
            raise InvalidRow(k)


def check_more(more, length):
    if not is_tuple(more):
        raise InvalidRows(None)
    for k, row in enumerate(more):
        if k == _MOST_FURTHER_ROWS or not is_row_of(row, length):
            raise InvalidRows(k)


def worth_of(row, rule):
    total = _NIL
    for number, factor in zip(row, rule):
        total = plus(total, times(number, factor))
    return total


def cut(rows, rules):
    check_cutting(rows, rules)
    return tuple(rows_that_go(rows, rules))


def rows_that_go(rows, rules):
    """The pairs (INDEX, WORTH) of the rows in the order in which they go."""
    left = list(range(len(rows)))
    gone = []
    for rule in rules:
        worths = [worth_of(rows[k], rule) for k in left]
        at = first_of_the_least(worths)
        gone.append((left.pop(at), worths[at]))
    return gone


def first_of_the_least(worths):
    wholes = scaled(worths, common_divisor(worths))
    return wholes.index(min(wholes))


def block_of(rows, rules, new):
    check_cutting(rows, rules)
    check_new(new, len(rows[0]))
    return block_behind(rows_that_go(rows, rules), rules, new)


def block_behind(gone, rules, new):
    """The block in which a row lies where these rows have gone."""
    for k, (_, worth) in enumerate(gone):
        if not is_below(worth, worth_of(new, rules[k])):
            return k + 1
    return len(gone) + 1


def left_out_blocks(rows, rules):
    check_rows(rows, 2, _MOST_ROWS + 1)
    check_rules(rules, len(rows) - 1, len(rows[0]))
    return tuple([
        block_behind(rows_that_go(rows[:k] + rows[k + 1:], rules), rules, row)
        for k, row in enumerate(rows)
    ])


def block_counts(rows, rules, more):
    check_cutting(rows, rules)
    check_more(more, len(rows[0]))
    gone = rows_that_go(rows, rules)
    counts = [0] * (len(rows) + 1)
    for row in more:
        counts[block_behind(gone, rules, row) - 1] += 1
    return tuple(counts)


def block_chance(count, further, number, within):
    check_counts(count, further)
    check_number_within(number, 0, count + 1)
    check_number_within(within, 0, further)
    return chance_of_ways(within_ways(count, further, number, within), count, further)
