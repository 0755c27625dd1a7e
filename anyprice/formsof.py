"""Forms of operator trees: trees that are the same but for modes, and who goes first in the best of them."""

from anyprice.kinds import is_amount_of
from anyprice.looks import checked_operators, parts_of
from anyprice.owns import many_of, own_of, taken_together
from anyprice.questions import asked_of
from anyprice.unders import least_of


def form_front(base, question, tree):
    """The ascending list of the amounts of the trees of the tree's form that none is under."""
    return list(formed_by(asked_of(base, question), tree))


def with_modes(base, question, tree, amount):
    """A tree of the form with an amount of this list, None for any other object."""
    found = formed_by(asked_of(base, question), tree)
    return found.get(tuple(amount), None) if is_amount_of(amount, 3) else None


def formed_by(asked, tree):
    """The ascending dict from the form's front to trees; BadTree for any object that is none."""
    checked_operators(asked, tree)
    return best_modes(asked, tree)[1]


def best_modes(asked, tree):
    """The pair of a tree's state and the dict from the front of its form to trees.

    What an operator takes with its parts rises with theirs, so that front amounts of these are enough.
    """
    parts = [best_modes(asked, part) for part in parts_of(tree)]
    states = [state for state, _ in parts]
    sizes = [many_of(asked, state) for state in states]
    state, steps, room = own_of(asked, tree, states)
    ways = [((), ())]
    for _, found in parts:
        ways = [(trees + (found[amount],), amounts + (amount,)) for trees, amounts in ways for amount in found]
    told = {}
    for mode in asked.modes if len(parts) == 2 else ("left",):
        for trees, amounts in ways:
            amount = taken_together(mode, (steps, steps, room), amounts, sizes)
            told[amount] = with_parts(tree, mode, trees)
    return state, {amount: told[amount] for amount in least_of(list(told))}


def with_parts(tree, mode, trees):
    """The operator of a tree in a mode over other trees."""
    if len(trees) == 2:
        return (tree[0], mode) + trees + tuple(tree[4:])
    if trees:
        return (tree[0], trees[0], tuple(tree[2]) if tree[0] == "sort" else tree[2])
    return tuple(tree)
