"""How many times as dear as another thing a thing is at most, whatever the prices."""

from anyprice.bests import hull_of, pieces_of_hull
from anyprice.errors import NoPlan
from anyprice.lookups import check_thing
from anyprice.products import in_lowest_terms, product_of
from anyprice.settling import fronts_of


def most_times(program, one, other):
    """The least fraction t such that one costs at most t times what other costs, None if there is none.

    On a piece of the map of one, the share of its cost in that of an amount of other is greatest at a corner.
    """
    check_thing(program, one)
    check_thing(program, other)
    fronts = fronts_of(program, [one, other])
    for thing in (one, other):
        if not fronts[thing]:
            raise NoPlan(thing)
    top, bottom = 0, 1
    limits = hull_of(fronts[other])
    for amount, corners in pieces_of_hull(fronts[one]).items():
        for corner in corners:
            mine, least = product_of(amount, corner), min([product_of(limit, corner) for limit in limits])
            if mine > 0 and least == 0:
                return None
            if mine * bottom > top * least:
                top, bottom = mine, least
    return in_lowest_terms((top, bottom))
