"""Lots of amounts and pieces of prices at the scale at which they are passed: what is none of them is refused."""

from anyprice.errors import BadAmounts
from anyprice.kinds import is_amount, is_list, is_prices_above
from anyprice.products import product_of
from anyprice.refusals import BadPiece


def checked_lot(amounts):
    """The amounts, unlike and of one length, as tuples; BadAmounts for the first thing that is none or stood before."""
    if not is_list(amounts) or len(amounts) == 0:
        raise BadAmounts(0)
    found = {}
    for index, amount in enumerate(amounts):
        if not is_amount(amount) or len(amount) != len(amounts[0]) or tuple(amount) in found:
            raise BadAmounts(index)
        found[tuple(amount)] = True
    return list(found)


def checked_piece(piece, many):
    """The corners, unlike rows of so many integers from 1 on, as tuples; BadPiece as BadAmounts for a lot."""
    if not is_list(piece) or len(piece) == 0:
        raise BadPiece(0)
    found = {}
    for index, corner in enumerate(piece):
        if not is_prices_above(corner, many) or tuple(corner) in found:
            raise BadPiece(index)
        found[tuple(corner)] = True
    return list(found)


def checked_both(amounts, piece):
    """A lot of amounts and a piece for them, as tuples."""
    lot = checked_lot(amounts)
    return lot, checked_piece(piece, len(lot[0]))


def costs_at(rows, corners):
    """The dict from rows to the lists of what they cost at the corners."""
    return {row: [product_of(row, corner) for corner in corners] for row in rows}


def leasts_of(costs):
    """The list, corner by corner, of the least costs, costs being those of rows at the corners."""
    rows = [costs[row] for row in costs]
    return [min(column) for column in zip(*rows)]
