"""Weights at which rows of integers add up to nothing above 0: the simplex method, exactly.

There is one line for each place of the rows: what the weighed rows add up to there, and a slack, are 0. A line is
a list of integers, one for each weight and then for each slack, and stands for itself times some number above 0,
so that no fractions are needed. Each line is solved for the weight, or slack, that it is based on.
"""

from math import lcm

from anyprice.products import divisor_of


def gaining_weights(rows, gains):
    """Weights that gain, as pairs (number of a row, weight above 0), at which rows add up to at most 0 everywhere.

    [] if there are none. Told are integers without a common divisor, for one row more at most than there are lines;
    slacks that are above 0 count as rows there.
    """
    if not rows:
        return []
    many = len(rows[0])
    lines = [
        [row[place] for row in rows] + [1 if other == place else 0 for other in range(many)]
        for place in range(many)
    ]
    based = [len(rows) + place for place in range(many)]
    profit = list(gains) + [0] * many
    column = first_above(profit)
    while column is not None:
        held = held_back(lines, based, column)
        if held is None:
            return weights_told(lines, based, column, len(rows))
        line = lines[held]
        lines = [cleared(other, line, column) if at != held else line for at, other in enumerate(lines)]
        profit = cleared(profit, line, column)
        based[held] = column
        column = first_above(profit)
    return []


def first_above(numbers):
    """The place of the first number above 0, None if there is none."""
    for place, number in enumerate(numbers):
        if number > 0:
            return place
    return None


def held_back(lines, based, column):
    """Of the lines that let nothing of the column in the one with the first base, None if there are none.

    With the first column that gains, and the first base, no bases come again, so that there is an end.
    """
    best = None
    for place, line in enumerate(lines):
        if line[column] > 0 and (best is None or based[place] < based[best]):
            best = place
    return best


def cleared(line, other, column):
    """A line, times some number above 0, with as much of another one taken off as leaves 0 in the column."""
    mine, its = line[column], other[column]
    if mine == 0:
        return line
    taken = [number * its - less * mine for number, less in zip(line, other)]
    divisor = max(1, divisor_of(taken))
    return [number // divisor for number in taken]


def weights_told(lines, based, column, many):
    """What the column takes along: with 1 of it, each line's base is as much as balances its line."""
    pairs = [(base, -line[column], line[base]) for base, line in zip(based, lines)] + [(column, 1, 1)]
    pairs = [(number, top, bottom) for number, top, bottom in pairs if number < many and top > 0]
    scale = 1
    for number, top, bottom in pairs:
        scale = lcm(scale, bottom)
    weights = sorted([(number, top * (scale // bottom)) for number, top, bottom in pairs])
    divisor = divisor_of([weight for number, weight in weights])
    return [(number, weight // divisor) for number, weight in weights]
