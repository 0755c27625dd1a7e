"""Stretches of a line between two rows of prices: a place on it is a fraction t, 1 - t of the one, t of the other."""

from anyprice.products import in_lowest_terms


def is_before(one, other):
    """Whether a fraction is less than another one."""
    return one[0] * other[1] < other[0] * one[1]


def stretch(rises):
    """The first and the last t from 0 to 1 at which pairs (first, last) are at most 0, (1 - t) * first + t * last.

    If there is none, or one alone, the first one that is told is not before the last one.
    """
    low, high = (0, 1), (1, 1)
    for first, last in rises:
        if first > 0 and last > 0:
            return (1, 1), (0, 1)
        if first > 0 or last > 0:
            crossing = in_lowest_terms((abs(first), abs(first - last)))
            if first > 0 and is_before(low, crossing):
                low = crossing
            if last > 0 and is_before(crossing, high):
                high = crossing
    return low, high
