"""Maps of all prices: the pieces in which amounts cost least, their walls, and what is met along a line."""

from anyprice.bests import pieces_of_hull
from anyprice.errors import BadPrices
from anyprice.fronts import front
from anyprice.kinds import is_prices
from anyprice.products import product_of
from anyprice.stretches import is_before, stretch
from anyprice.unders import checked_amounts


def price_map(amounts):
    """The ascending dict from the hull of the amounts to the corners of their pieces."""
    return pieces_of_hull(checked_amounts(amounts))


def map_of(program, thing):
    """The map of the thing's front."""
    return pieces_of_hull(front(program, thing))


def walls(amounts):
    """The ascending list of (one, other, corners): hull amounts whose pieces meet, and the corners where they do."""
    pieces = price_map(amounts)
    found = []
    for one in pieces:
        for other in pieces:
            shared = sorted([corner for corner in pieces[one] if corner in pieces[other]])
            if one < other and len(shared) == len(one) - 1:
                found.append((one, other, shared))
    return found


def best_along(amounts, begin, end):
    """The list of (amount, low, high): the hull amounts that cost least for a while from begin to end, and when."""
    pieces = price_map(amounts)
    for prices in (begin, end):
        if not is_prices(prices) or (amounts and len(prices) != len(amounts[0])):
            raise BadPrices(prices)
    lines = [(amount, product_of(amount, begin), product_of(amount, end)) for amount in pieces]
    told = []
    for amount, first, last in lines:
        low, high = stretch([(first - other[1], last - other[2]) for other in lines])
        if is_before(low, high):
            place = len([triple for triple in told if not is_before(low, triple[1])])
            told.insert(place, (amount, low, high))
    return told
