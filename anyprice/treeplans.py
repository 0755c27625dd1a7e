"""Trees of numbers as programs: whose plans cover the tree by instructions of a machine."""

from anyprice.programs import Program
from anyprice.treerules import SORTS, tree_rules
from anyprice.trees import checked_number_tree


def tree_program(machine, tree):
    """The program of a tree: cycles, bytes and registers; "r0." is the whole tree in a register."""
    rules = tree_rules(machine, checked_number_tree(tree))
    return Program(SORTS, [rule for rule, _ in rules])
