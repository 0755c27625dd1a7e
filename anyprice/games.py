"""Games that are told by rows of integers: who mixes rows wants little, who weighs columns wants much."""

from math import lcm

from anyprice.balances import cleared, first_above


def best_weights(rows):
    """Weights of rows, and of columns, such that no mean of a column is above the least mean of a row.

    All integers are above 0. The simplex method makes the sum of the rows' weights as great as it can be while each
    column weighs at most 1; the weights of columns are what the slacks cost then. As in gaining_weights, a line is a
    list of integers, and stands for itself times some number above 0; behind its slacks stands what it may weigh.
    """
    many, columns = len(rows), len(rows[0])
    lines = [
        [row[place] for row in rows] + [1 if other == place else 0 for other in range(columns)] + [1]
        for place in range(columns)
    ]
    based = [many + place for place in range(columns)]
    profit = [1] * many + [0] * columns + [0]
    column = first_above(profit[:-1])
    while column is not None:
        held = first_held(lines, based, column)
        line = lines[held]
        lines = [cleared(other, line, column) if at != held else line for at, other in enumerate(lines)]
        profit = cleared(profit, line, column)
        based[held] = column
        column = first_above(profit[:-1])
    return weights_of_rows(lines, based, many), [-number for number in profit[many:-1]]


def first_held(lines, based, column):
    """The number of the line that the column fills first, of several the one with the first base."""
    best = None
    for place, line in enumerate(lines):
        if line[column] > 0:
            if best is None:
                best = place
            else:
                mine, its = line[-1] * lines[best][column], lines[best][-1] * line[column]
                if mine < its or (mine == its and based[place] < based[best]):
                    best = place
    return best


def weights_of_rows(lines, based, many):
    """The list of the rows' weights, as integers: that of a line's base is what the line weighs."""
    scale = 1
    for base, line in zip(based, lines):
        scale = lcm(scale, line[base])
    weights = [0] * many
    for base, line in zip(based, lines):
        if base < many:
            weights[base] = line[-1] * (scale // line[base])
    return weights
