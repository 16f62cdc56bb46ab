"""Which of the two a saying has: blocks that make it strictly so, or weights that bar it.

The rows, and a further row for each block by itself, make a game: one player chooses blocks and
gets the least sum of a row, the other one chooses weights for the rows and holds the first one to
the greatest number in their sum. The most that blocks can get is the least that weights can hold
them to. If this is above 0, the best blocks are all above 0, and so are all sums. If not, the best
weights make a sum that is nowhere above 0; they are not all on the further rows, and without these
the sum is no greater.
"""

from anydraws.ratios import unit_rows


def settled_game(rows):
    """The pair (blocks, None) or (None, weights), whole numbers, for rows of whole numbers."""
    game = rows + unit_rows(len(rows[0]))
    # Lifting all numbers alike changes nothing but the outcome, which has to be above 0 here.
    lift = 1 - min([min(row) for row in game])
    table, basis, whole = solved(first_table(game, lift), len(game))
    goal = table[-1]
    if goal[-1] * lift < whole:
        return (goal[len(game):-1], None)
    weights = [0] * len(game)
    for place, row in zip(basis, table):
        if place < len(game):
            weights[place] = row[-1]
    return (None, weights[:len(rows)])


def first_table(game, lift):
    """A row for each block: its lifted numbers, its own unit, the bound 1; last the goal's row.

    It asks for weights from 0 on with the greatest sum that give no block more than 1. Solved, it
    has the blocks, by the same measure, in the goal's row behind the weights.
    """
    table = []
    for k, units in enumerate(unit_rows(len(game[0]))):
        table.append([row[k] + lift for row in game] + units + [1])
    table.append([-1] * len(game) + [0] * len(table) + [0])
    return table


def solved(table, many):
    """The table after all turns, the places that its rows stand for, and what all is over."""
    basis = [many + k for k in range(len(table) - 1)]
    whole = 1
    column = gaining_column(table[-1])
    while column is not None:
        at = binding_row(table, basis, column)
        basis[at] = column
        turning = table[at][column]
        table = turned(table, at, column, whole)
        whole = turning
        column = gaining_column(table[-1])
    return table, basis, whole


def gaining_column(goal):
    """The first column that makes the goal grow. Always the first, lest the turns go round."""
    for k, number in enumerate(goal[:-1]):
        if number < 0:
            return k
    return None


def binding_row(table, basis, column):
    """The row that bounds the column first; of several the one of the first place."""
    bounding = [at for at in range(len(basis)) if table[at][column] > 0]
    best = bounding[0]
    for at in bounding[1:]:
        here = table[at][-1] * table[best][column]
        there = table[best][-1] * table[at][column]
        if here < there or (here == there and basis[at] < basis[best]):
            best = at
    return best


def turned(table, at, column, whole):
    """The table with this row standing for this column; its numbers stay whole over one divisor."""
    chosen = table[at]
    new = []
    for k, row in enumerate(table):
        if k == at:
            new.append(chosen)
        else:
            new.append([
                (number * chosen[column] - row[column] * by) // whole
                for number, by in zip(row, chosen)
            ])
    return new
