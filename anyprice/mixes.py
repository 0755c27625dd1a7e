"""Mixes of amounts: whether one is at most an amount, and one that is."""

from anyprice.balances import gaining_weights
from anyprice.errors import BadAmount, BadAmounts, BadMix
from anyprice.kinds import is_amount, is_amount_of, is_int_from, is_list
from anyprice.products import mixed
from anyprice.unders import is_at_most


def is_mix(thing):
    """Whether it is a dict from amounts of one length to weights from 1 on."""
    if not isinstance(thing, dict) or len(thing) == 0:
        return False
    amounts = list(thing)
    if not is_amount(amounts[0]):
        return False
    many = len(amounts[0])
    return all([is_amount_of(amount, many) and is_int_from(thing[amount], 1) for amount in amounts])


def mix_sum(mix):
    """The pair of what the weighed amounts add up to, and the sum of the weights."""
    if not is_mix(mix):
        raise BadMix(mix)
    row = [0] * len(list(mix)[0])
    for amount, weight in mix.items():
        row = mixed(row, 1, amount, weight)
    return row, sum([weight for weight in mix.values()])


def check_mixed(target, others):
    """BadAmount for a target that is no amount, BadAmounts for others that are not all as long."""
    if not is_amount(target):
        raise BadAmount(target)
    if not is_list(others):
        raise BadAmounts(0)
    for index, other in enumerate(others):
        if not is_amount_of(other, len(target)):
            raise BadAmounts(index)


def is_mix_for(target, others, thing, less=False):
    """Whether it is a mix of others, unlike the target, that is at most the target, or less than it."""
    check_mixed(target, others)
    if not is_mix(thing):
        return False
    goal = tuple(target)
    listed = {tuple(other): True for other in others}
    if any([amount == goal or amount not in listed for amount in thing]):
        return False
    row, total = mix_sum(thing)
    limits = tuple([number * total for number in goal])
    return is_at_most(row, limits) and not (less and row == limits)


def mix_for(target, others, less=False):
    """A mix of few of the others that is at most the target, or less than it; None if there is none.

    The simplex method weighs one row more at most than amounts have numbers. Where something is saved, a slack is
    one of these. Where nothing can be, so many rows cannot balance: as all but one of them are independent, they
    would balance any row, one that saves, too. So no more amounts are weighed than they have numbers.
    """
    check_mixed(target, others)
    goal = tuple(target)
    amounts = list(reversed(sorted({tuple(other) for other in others if tuple(other) != goal})))
    rises = [mixed(amount, 1, goal, -1) for amount in amounts]
    weights = gaining_weights(rises, [-sum(rise) for rise in rises])
    if not weights and not less:
        weights = gaining_weights(rises, [1] * len(rises))
    if not weights:
        return None
    return {amounts[index]: weight for index, weight in reversed(weights)}
