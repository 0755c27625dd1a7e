"""Bulges: the least worst regret that drawing among amounts can have."""

from anyprice.balances import gaining_weights
from anyprice.games import best_weights
from anyprice.kinds import is_fraction, is_int_from, is_list_of
from anyprice.lots import checked_both, costs_at, leasts_of
from anyprice.mixes import is_mix
from anyprice.products import grown, in_lowest_terms, mixed, product_of, sum_of
from anyprice.within import few_of


def bulge(amounts, piece):
    """The triple (number, mix, weights): what is least, a mix that has it, and weights that show it."""
    lot, corners = checked_both(amounts, piece)
    ordered, places = sorted(lot), sorted(corners)
    costs = costs_at(ordered, places)
    leasts = leasts_of(costs)
    rows, columns = best_weights([regrets_of(costs[amount], leasts, 1) for amount in ordered])
    mix = few_of({amount: weight for amount, weight in zip(ordered, rows) if weight > 0})
    number = worst_mean(costs, leasts, mix)
    weights = few_corners(ordered, places, leasts, columns, number)
    return number, mix, [weights.get(corner, 0) for corner in corners]


def regrets_of(costs, leasts, more):
    """What the costs are more than the leasts, corner by corner, and so much more."""
    return [cost - least + more for cost, least in zip(costs, leasts)]


def worst_mean(costs, leasts, mix):
    """The greatest mean regret of a mix at a corner, a fraction in lowest terms."""
    total = sum([mix[amount] for amount in mix])
    regrets = [
        sum([(costs[amount][place] - least) * mix[amount] for amount in mix])
        for place, least in enumerate(leasts)
    ]
    return in_lowest_terms((max(regrets), total))


def few_corners(lot, corners, leasts, columns, number):
    """The dict from few corners to weights that show the number as the weights of columns, in the corners' order, do.

    Of all weights that add up to the same prices those show it for which the mean of leasts is least. What they lack
    is one more line: it is 0 at best, so that all that are told keep one more balance than the lines' own, and no
    more are told than there are resources.
    """
    prices = sum_of([grown(corner, weight) for corner, weight in zip(corners, columns)])
    total = sum(prices)
    top, bottom = number
    least = min([product_of(amount, prices) for amount in lot])
    rises = []
    for corner, low in zip(corners, leasts):
        lacking = total * (bottom * low + top) - sum(corner) * bottom * least
        rises.append(mixed(corner, total, prices, -sum(corner)) + (lacking,))
    return {corners[place]: weight for place, weight in gaining_weights(rises, [1] * len(corners))}


def is_bulge(amounts, piece, thing):
    """Whether it is a triple (number, mix, weights) that shows the number to be the least, of however many."""
    lot, corners = checked_both(amounts, piece)
    if not is_list_of(thing, 3):
        return False
    number, mix, weights = thing
    if not is_fraction(number) or not is_mix(mix) or not are_weights(weights, len(corners)):
        return False
    if not all([amount in lot for amount in mix]):
        return False
    costs = costs_at(lot, corners)
    leasts = leasts_of(costs)
    worst = worst_mean(costs, leasts, mix)
    if worst[0] * number[1] > number[0] * worst[1]:
        return False
    prices = sum_of([grown(corner, weight) for corner, weight in zip(corners, weights)])
    shown = min([product_of(amount, prices) for amount in lot]) - product_of(leasts, weights)
    return shown * number[1] == number[0] * sum(weights)


def are_weights(thing, many):
    """Whether it is a list of so many integers from 0 on, not all 0."""
    return is_list_of(thing, many) and all([is_int_from(weight, 0) for weight in thing]) and max(thing) > 0
