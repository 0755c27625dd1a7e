"""Regrets: what an amount costs more than the least, at worst, where prices are not known."""

from anyprice.checks import check_amount
from anyprice.lots import checked_both, costs_at, leasts_of


def worst_of(costs, leasts):
    """The pair (regret, number) of the greatest regret, and of the first corner that has it."""
    regrets = [cost - least for cost, least in zip(costs, leasts)]
    worst = max(regrets)
    return worst, regrets.index(worst)


def worst_regret(amounts, piece, amount):
    """The pair (regret, number) of the greatest regret of the amount, and of the first corner where it is met."""
    lot, corners = checked_both(amounts, piece)
    check_amount(lot, amount)
    costs = costs_at(lot, corners)
    return worst_of(costs[tuple(amount)], leasts_of(costs))


def least_worst(amounts, piece):
    """The pair (regret, amount) of the least of all worst regrets, and of the first amount that has it."""
    lot, corners = checked_both(amounts, piece)
    costs = costs_at(lot, corners)
    leasts = leasts_of(costs)
    return min([(worst_of(costs[amount], leasts)[0], amount) for amount in lot])
