"""Choices that were seen: the prices that explain them, what shows that none do, and what to ask next."""

from anyprice.balances import gaining_weights
from anyprice.bests import middle_of
from anyprice.checks import check_many
from anyprice.errors import BadAmount, BadAmounts
from anyprice.kinds import is_amount_of, is_int, is_int_from, is_list, is_list_of
from anyprice.pieces import corners_where, cut_off
from anyprice.products import mixed, product_of
from anyprice.refusals import BadChoice, Unexplained


def is_choice(n, thing):
    """Whether it is a pair of an amount of n numbers and a list of such."""
    if not is_list_of(thing, 2) or not is_amount_of(thing[0], n) or not is_list(thing[1]):
        return False
    return all([is_amount_of(other, n) for other in thing[1]])


def check_choices(n, choices):
    """BadNumber for n that is none of 1, 2, 3; BadChoice for the first thing that is no choice."""
    check_many(n)
    if not is_list(choices):
        raise BadChoice(0)
    for index, choice in enumerate(choices):
        if not is_choice(n, choice):
            raise BadChoice(index)


def cuts_of(choices):
    """What the taken amounts take more than their others, choice by choice, number by number."""
    return [mixed(taken, 1, other, -1) for taken, others in choices for other in others]


def is_explained(corners):
    """Whether there are prices above 0 in the piece of these corners."""
    return middle_of(corners) is not None


def explaining(n, choices):
    """The corners of the prices, rim too, at which all was taken rightly, if some of them are above 0; else None."""
    check_choices(n, choices)
    corners = corners_where(n, cuts_of(choices))
    return corners if is_explained(corners) else None


def swaps_of(choices):
    """The list of the swaps (number of a choice, number of one of its others)."""
    return [(number, place) for number, choice in enumerate(choices) for place in range(len(choice[1]))]


def gain(n, choices):
    """A dict from swaps to how often they are taken so that something is saved and nothing lost, None if none is.

    Something is saved, so that a slack is one of the n + 1 that the simplex method weighs at most.
    """
    check_choices(n, choices)
    rises = [tuple([-number for number in cut]) for cut in cuts_of(choices)]
    weights = gaining_weights(rises, [-sum(rise) for rise in rises])
    swaps = swaps_of(choices)
    return {swaps[index]: weight for index, weight in weights} if weights else None


def is_swap(thing):
    """Whether it is a pair of integers, as keys are."""
    return isinstance(thing, tuple) and len(thing) == 2 and all([is_int(number) for number in thing])


def is_gain(n, choices, thing):
    """Whether it is a dict from swaps to integers from 1 on that saves something and loses nothing."""
    check_choices(n, choices)
    if not isinstance(thing, dict):
        return False
    swaps = swaps_of(choices)
    if not all([is_swap(swap) and swap in swaps and is_int_from(thing[swap], 1) for swap in thing]):
        return False
    saved = (0,) * n
    for number, place in thing:
        taken, others = choices[number]
        saved = mixed(saved, 1, mixed(taken, 1, others[place], -1), thing[(number, place)])
    return min(saved) >= 0 and max(saved) > 0


def check_amounts(n, amounts):
    """BadAmounts for the first thing that is no amount of n numbers."""
    if not is_list(amounts):
        raise BadAmounts(0)
    for index, amount in enumerate(amounts):
        if not is_amount_of(amount, n):
            raise BadAmounts(index)


def checked_corners(n, choices):
    """The corners of the prices that explain the choices, which were checked; Unexplained if none above 0 do."""
    corners = corners_where(n, cuts_of(choices))
    if not is_explained(corners):
        raise Unexplained()
    return corners


def corners_with(corners, taken, others):
    """The corners of what is left of a piece if the one is taken where the others can be had, too."""
    for cut in cuts_of([(taken, others)]):
        corners = cut_off(corners, cut)
    return corners


def verdict(n, choices, taken, others):
    """Whether a further choice is "sure", "never" is made, or "may" be, at prices above 0 that explain the others."""
    check_choices(n, choices)
    if not is_amount_of(taken, n):
        raise BadAmount(taken)
    check_amounts(n, others)
    corners = checked_corners(n, choices)
    if not is_explained(corners_with(corners, taken, others)):
        return "never"
    unlike = [other for other in others if tuple(other) != tuple(taken)]
    if any([is_explained(corners_with(corners, other, [taken])) for other in unlike]):
        return "may"
    return "sure"


def checked_lot(n, choices, lot):
    """The ascending list of the unlike amounts of a lot, and the corners of the prices that explain the choices."""
    check_choices(n, choices)
    check_amounts(n, lot)
    if len(lot) == 0:
        raise BadAmounts(0)
    return sorted({tuple(amount) for amount in lot}), checked_corners(n, choices)


def possible(corners, amounts):
    """Those of the amounts that cost least of all at some prices above 0 of the piece."""
    return [amount for amount in amounts if is_explained(corners_with(corners, amount, amounts))]


def could_be(n, choices, lot):
    """The ascending list of those of a lot that cost least at some prices above 0 that explain the choices."""
    amounts, corners = checked_lot(n, choices, lot)
    return possible(corners, amounts)


def pairs_open(corners, amounts):
    """The ascending pairs of the amounts, which are ascending, whose costs differ both ways at corners."""
    found = []
    for place, one in enumerate(amounts):
        for other in amounts[place + 1:]:
            rises = [product_of(corner, mixed(one, 1, other, -1)) for corner in corners]
            if min(rises) < 0 < max(rises):
                found.append((one, other))
    return found


def open_pairs(n, choices, lot):
    """The ascending list of the pairs (lesser, greater) of unlike amounts of a lot that are open."""
    amounts, corners = checked_lot(n, choices, lot)
    return pairs_open(corners, amounts)


def next_pair(n, choices, lot):
    """The first of the open pairs after whose worse answer fewest of the lot could be, None if none is open."""
    amounts, corners = checked_lot(n, choices, lot)
    best, least = None, len(amounts) + 1
    for one, other in pairs_open(corners, amounts):
        left = [
            len(possible(corners_with(corners, taken, [beside]), amounts))
            for taken, beside in ((one, other), (other, one))
        ]
        if max(left) < least:
            best, least = (one, other), max(left)
    return best
