"""Runs of operator trees: the rows that they make, and what is counted as they are made."""

from anyprice.looks import checked_operators, mode_of, parts_of
from anyprice.operatorruns import operated
from anyprice.owns import taken_together
from anyprice.questions import asked_of


def run_tree(base, question, tree):
    """The pair (rows in the order in which they come, amount counted) of a tree."""
    asked = asked_of(base, question)
    checked_operators(asked, tree)
    _, rows, amount = made_by(asked, tree)
    return rows, amount


def made_by(asked, tree):
    """The set, the rows and the counted amount of a tree, which was checked; each step takes its time."""
    inner = [made_by(asked, part) for part in parts_of(tree)]
    words, rows, steps, room = operated(asked, tree, [(part, found) for part, found, _ in inner])
    sizes = [len(found) for _, found, _ in inner]
    amounts = [amount for _, _, amount in inner]
    return words, rows, taken_together(mode_of(tree), (steps, steps, room), amounts, sizes)
