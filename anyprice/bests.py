"""At which prices an amount of a list costs least; amounts are tuples of one length, from one number on, here."""

from anyprice.pieces import corners_where, inside
from anyprice.products import mixed, product_of
from anyprice.unders import least_of


def piece_of(amount, amounts):
    """The corners of the prices, rim too, at which none of the amounts costs less than this one."""
    return corners_where(len(amount), [mixed(amount, 1, other, -1) for other in amounts if other != amount])


def middle_of(corners):
    """The inside of a piece if it is above 0 everywhere, None if the piece has no prices above 0."""
    if not corners:
        return None
    middle = inside(corners)
    return middle if min(middle) > 0 else None


def is_only_best(amount, amounts, prices):
    """Whether each of the amounts that is unlike this one costs more."""
    limit = product_of(amount, prices)
    return all([product_of(other, prices) > limit for other in amounts if other != amount])


def pieces_of_hull(amounts):
    """The ascending dict from those that are the only best at some prices above 0 to the corners of their pieces.

    Where an amount is the only best of all at some prices above 0 it is so at its piece's inside. What another one
    is under never is; nor does it cut anything off that this one leaves.
    """
    least = least_of(amounts)
    found = {}
    for amount in least:
        corners = piece_of(amount, least)
        middle = middle_of(corners)
        if middle is not None and is_only_best(amount, least, middle):
            found[amount] = corners
    return found


def hull_of(amounts):
    """The ascending list of those that are the only best at some prices above 0."""
    return list(pieces_of_hull(amounts))
