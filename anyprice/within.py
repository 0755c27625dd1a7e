"""What is best within a piece of prices that are not known yet, and what is surely used there."""

from anyprice.balances import gaining_weights
from anyprice.checks import check_amount
from anyprice.fronts import front
from anyprice.lookups import check_thing
from anyprice.lots import checked_both, checked_piece, costs_at
from anyprice.mixes import mix_for
from anyprice.pieces import weights_to
from anyprice.products import grown, mixed, sum_of
from anyprice.tops import sure_rules


def best_within(amounts, piece):
    """The ascending list of the amounts whose cost is the least at some prices within."""
    lot, corners = checked_both(amounts, piece)
    return sorted([amount for amount in lot if best_at(lot, corners, amount) is not None])


def best_at(lot, corners, amount):
    """Prices, a sum of corners, at which the amount costs least, None if there are none."""
    costs = costs_at(lot, corners)
    rises = [[costs[amount][place] - costs[other][place] for other in lot] for place in range(len(corners))]
    weights = gaining_weights(rises, [1] * len(corners))
    if not weights:
        return None
    return sum_of([grown(corners[place], weight) for place, weight in weights])


def weights_for(amounts, piece, amount):
    """The list of the weights of few corners at whose sum the amount costs least, None if there is none."""
    lot, corners = checked_both(amounts, piece)
    check_amount(lot, amount)
    prices = best_at(sorted(lot), sorted(corners), tuple(amount))
    return None if prices is None else weights_at(corners, prices)


def weights_at(corners, prices):
    """The list of the weights of few corners that add up to a multiple of prices, whatever the order of the corners."""
    ordered = sorted(corners)
    weights = {ordered[place]: weight for place, weight in weights_to(ordered, prices)}
    return [weights.get(corner, 0) for corner in corners]


def mix_under(amounts, piece, amount):
    """A mix of few of the amounts that costs less than the amount at each corner, None if there is none."""
    lot, corners = checked_both(amounts, piece)
    check_amount(lot, amount)
    ordered = sorted(lot)
    costs = costs_at(ordered, sorted(corners))
    limits = costs[tuple(amount)]
    rises = [mixed(costs[other], 1, limits, -1) for other in ordered] + [(1,) * len(corners)]
    weights = gaining_weights(rises, [0] * len(ordered) + [1])
    if not weights:
        return None
    return few_of({ordered[place]: weight for place, weight in weights if place < len(ordered)})


def few_of(mix):
    """A mix that is at most a mix, of no more of its amounts than these have numbers."""
    total = sum([mix[amount] for amount in mix])
    row = sum_of([grown(amount, mix[amount]) for amount in mix])
    bearers = {grown(amount, total): amount for amount in mix}
    if row in bearers:
        return {bearers[row]: 1}
    found = mix_for(row, list(bearers))
    weights = {bearers[amount]: found[amount] for amount in found}
    return {amount: weights[amount] for amount in sorted(weights)}


def surely_used(program, thing, piece):
    """The ascending list of the numbers of the rules that are in each best plan at all prices within.

    Prices within are above 0, so best plans have front amounts.
    """
    check_thing(program, thing)
    corners = checked_piece(piece, len(program.own_sorts()))
    amounts = front(program, thing)
    numbers = list(range(len(program))) if amounts else []
    for amount in amounts:
        if best_at(amounts, corners, amount) is not None:
            sure = sure_rules(program, thing, amount)
            numbers = [number for number in numbers if number in sure]
    return numbers
