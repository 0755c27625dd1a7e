"""Boxes of programs: they tell what costs least of a thing's front amounts, or of those within bounds."""

from anyprice.checks import check_bounds
from anyprice.costs import cheapest_of
from anyprice.errors import BadPrices
from anyprice.fronts import front
from anyprice.kinds import is_prices
from anyprice.lookups import check_thing
from anyprice.views import rows_within


def box_of(program, thing):
    """A box of the thing's plans: the first of the front amounts that cost least, None without plans."""
    return box_of_rows(front(program, thing), len(program.own_sorts()))


def box_within(program, thing, bounds):
    """A box of the rows in the flat resources that front amounts within bounds have, None if there are none."""
    check_thing(program, thing)
    check_bounds(program, bounds)
    sorts = program.own_sorts()
    return box_of_rows(rows_within(sorts, front(program, thing), bounds), sorts.count("flat"))


def box_of_rows(rows, many):
    """A box of ascending rows of so many numbers."""

    def box(prices):
        if not is_prices(prices) or len(prices) != many:
            raise BadPrices(prices)
        return cheapest_of(rows, prices)[0] if rows else None

    return box
