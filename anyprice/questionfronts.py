"""Fronts of questions: the amounts of the best trees, and such trees."""

from anyprice.budgets import first_of_least, is_within
from anyprice.checks import check_prices_of
from anyprice.errors import BadAmount, BadBudget
from anyprice.kinds import is_amount_of, is_budget
from anyprice.looks import looked_at, parts_of
from anyprice.products import product_of
from anyprice.questionplans import plans_of
from anyprice.questions import asked_of


def question_front(base, question):
    """The ascending list of the amounts of trees of the question that no other one's is under."""
    return list(plans_of(asked_of(base, question)).settle())


def tree_with(base, question, amount):
    """A tree of the question with an amount of its front, without needless sorts; None for any other amount."""
    asked = asked_of(base, question)
    if not is_amount_of(amount, 3):
        raise BadAmount(amount)
    plans = plans_of(asked)
    return lean_tree(plans, tuple(amount)) if tuple(amount) in plans.settle() else None


def best_tree(base, question, prices, budget):
    """The pair (amount, tree) of the least cost within the budget, of several the first one; None if there is none."""
    asked = asked_of(base, question)
    check_prices_of(3, prices)
    if not is_budget(budget, 3):
        raise BadBudget(budget)
    plans = plans_of(asked)
    amounts = [amount for amount in plans.settle() if is_within(amount, budget)]
    best = first_of_least([product_of(amount, prices) for amount in amounts], amounts)
    return None if best is None else (best, lean_tree(plans, best))


def lean_tree(plans, amount):
    """A tree with an amount of the front that sorts nothing that was in the same order before."""
    return with_fewer_sorts(plans.asked, plans.tree_by(plans.plan_with(amount)))


def with_fewer_sorts(asked, tree):
    """The tree without the sorts that make an order which something of the same set below them has.

    What was there before the sort takes no more than with it, and is in the same order.
    """
    if tree[0] in ("loops", "boxes", "merge"):
        return tree[:2] + tuple([with_fewer_sorts(asked, part) for part in parts_of(tree)]) + tree[4:]
    if tree[0] not in ("sort", "step"):
        return tree
    inner = with_fewer_sorts(asked, tree[1])
    if tree[0] == "sort":
        order = first_tied(asked, tree)
        below = inner
        while first_tied(asked, below) != order and below[0] == "sort":
            below = below[1]
        if first_tied(asked, below) == order:
            return below
    return (tree[0], inner, tree[2])


def first_tied(asked, tree):
    """The first of the columns that a tree's order stands for, None without an order."""
    words, order, _ = looked_at(asked, tree)
    return None if order is None else asked.tied_to(words, order)[0]
