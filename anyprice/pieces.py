"""Pieces of prices: the rows from 0 on that add up to at most 0 with cuts, told by their corners."""

from anyprice.balances import gaining_weights
from anyprice.checks import check_many
from anyprice.errors import BadCorners, BadCuts, BadPrices
from anyprice.kinds import is_list, is_prices, is_row
from anyprice.products import in_lowest_terms, mixed, product_of, sum_of


def corners_where(many, cuts):
    """The corners of the piece of cuts, whose rows have many numbers; three or more of them once round."""
    check_many(many)
    if not is_list(cuts):
        raise BadCuts(0)
    for index, cut in enumerate(cuts):
        if not is_row(cut, many):
            raise BadCuts(index)
    corners = [tuple([1 if other == place else 0 for other in range(many)]) for place in range(many)]
    for cut in cuts:
        corners = cut_off(corners, cut)
    return from_the_least(corners)


def cut_off(corners, cut):
    """The corners of what a cut leaves of a piece, once round as they came.

    Where the rim goes through the cut there is a new corner. Two corners have the same stretch of rim between
    them both ways round, so that its corner is met twice.
    """
    left = []
    for index, corner in enumerate(corners):
        follower = corners[(index + 1) % len(corners)]
        here, there = product_of(corner, cut), product_of(follower, cut)
        if here <= 0:
            left.append(corner)
        if here * there < 0:
            crossing = in_lowest_terms(mixed(corner, abs(there), follower, abs(here)))
            if crossing not in left:
                left.append(crossing)
    return left


def from_the_least(corners):
    """The corners, the same way round, with the least one first; so two of them are ascending."""
    if not corners:
        return []
    first = corners.index(min(corners))
    return corners[first:] + corners[:first]


def check_corners(corners):
    """BadCorners for what is no list of rows of prices, rim too, of one length, or is an empty one."""
    if not is_list(corners) or len(corners) == 0:
        raise BadCorners(0)
    for index, corner in enumerate(corners):
        if not is_prices(corner) or len(corner) != len(corners[0]):
            raise BadCorners(index)


def inside(corners):
    """The sum of the corners, without a common divisor."""
    check_corners(corners)
    return in_lowest_terms(sum_of(corners))


def is_in_piece(corners, prices):
    """Whether prices are, times some integer, a sum of corners with weights from 0 on."""
    check_corners(corners)
    if not is_prices(prices) or len(prices) != len(corners[0]):
        raise BadPrices(prices)
    return len(weights_to(corners, prices)) > 0


def weights_to(corners, prices):
    """Pairs (number of a corner, weight above 0) that add up to a multiple of prices, [] if there are none.

    Each corner is taken at the scale at which its numbers add up to what those of the prices do. Less the prices
    it adds up to 0 then, so that a mix of these that is nowhere above 0 is 0 everywhere. So the lines depend on one
    another, and no more corners are told than these have numbers.
    """
    total = sum(prices)
    rises = [mixed(corner, total, prices, -sum(corner)) for corner in corners]
    return gaining_weights(rises, [1] * len(rises))
