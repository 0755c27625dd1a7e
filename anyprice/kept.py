"""What is kept along a line of prices, if it may cost a share more than the least; and places that are apart."""

from anyprice.errors import BadPrices
from anyprice.kinds import is_fraction, is_list, is_prices_above
from anyprice.lots import checked_lot
from anyprice.products import in_lowest_terms, product_of
from anyprice.refusals import BadShare
from anyprice.stretches import is_before, stretch

END = (1, 1)


def kept(amounts, one, other, share):
    """The list of (amount, from, upto): what serves where the one ahead ends, and on to the farthest place."""
    return kept_of(stretches_of(amounts, one, other, share))


def stretches_of(amounts, one, other, share):
    """The dict, ascending, from the amounts that serve somewhere to the pairs of the first and the last place."""
    lot = sorted(checked_lot(amounts))
    for prices in (one, other):
        if not is_prices_above(prices, len(lot[0])):
            raise BadPrices(prices)
    if not is_fraction(share) or share[0] < 0:
        raise BadShare(share)
    top, bottom = share
    lines = [(amount, product_of(amount, one), product_of(amount, other)) for amount in lot]
    found = {}
    for amount, first, last in lines:
        low, high = stretch([
            (bottom * first - (bottom + top) * begun, bottom * last - (bottom + top) * ended)
            for _, begun, ended in lines
        ])
        if not is_before(high, low):
            found[amount] = (low, high)
    return found


def kept_of(stretches):
    """The triples (amount, from, upto) of what serves farthest.

    What costs least just behind a place does so at the place, too; so each one serves farther than the one ahead.
    """
    triples = []
    place = (0, 1)
    while not triples or is_before(place, END):
        best = None
        for amount, (low, high) in stretches.items():
            if not is_before(place, low) and (best is None or is_before(stretches[best][1], high)):
                best = amount
        upto = stretches[best][1]
        triples.append((best, place, upto))
        place = upto
    return triples


def apart(amounts, one, other, share):
    """A list of as many places as kept has amounts, no two of which one amount serves.

    They are the first place, and one just behind each place where an amount of kept ends and another one begins: not
    behind the next place at which any stretch begins or ends. What serves there serves where the other one begins,
    and so no farther than this one.
    """
    stretches = stretches_of(amounts, one, other, share)
    places = [(0, 1)]
    for _, begun, _ in kept_of(stretches)[1:]:
        behind = END
        for pair in stretches.values():
            for place in pair:
                if is_before(begun, place) and is_before(place, behind):
                    behind = place
        places.append(in_lowest_terms((begun[0] + behind[0], begun[1] + behind[1])))
    return places


def is_place(thing):
    """Whether it is a fraction from 0 to 1."""
    return is_fraction(thing) and 0 <= thing[0] <= thing[1]


def are_apart(amounts, one, other, share, thing):
    """Whether it is a list of ascending places, no two of which one amount serves."""
    stretches = stretches_of(amounts, one, other, share)
    if not is_list(thing) or not all([is_place(place) for place in thing]):
        return False
    for place, follower in zip(thing, thing[1:]):
        if not is_before(place, follower):
            return False
        for low, high in stretches.values():
            if not is_before(place, low) and not is_before(high, follower):
                return False
    return True
