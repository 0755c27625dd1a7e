"""Operator trees: which there are of a question, what they make, in which order, and what amounts they take."""

from anyprice.looks import checked_operators, looked_at
from anyprice.owns import weighed
from anyprice.questions import asked_of


def is_operator_tree(base, question, thing):
    """Whether it is an operator tree of some set of sources."""
    return looked_at(asked_of(base, question), thing) is not None


def tree_set(base, question, tree):
    """The list of the words of the tree's set, in the order of the sources."""
    words, _, _ = checked_operators(asked_of(base, question), tree)
    return list(words)


def tree_order(base, question, tree):
    """None, or the first one of all columns that are tied to the tree's order."""
    asked = asked_of(base, question)
    words, order, _ = checked_operators(asked, tree)
    return None if order is None else asked.tied_to(words, order)[0]


def tree_amount(base, question, tree):
    """The amount (steps, time, room) of the tree."""
    asked = asked_of(base, question)
    checked_operators(asked, tree)
    return weighed(asked, tree)[1]
