"""Rows of code: whether they are some, the tree that they work out, and whether they are code of a tree."""

from anyprice.codereads import Reader, checked_code, first_unread, first_wrong
from anyprice.patterns import leaves_of, with_leaves
from anyprice.trees import checked_number_tree


def is_rows(machine, thing):
    """Whether it is rows of code of the machine."""
    return first_wrong(Reader(machine), thing) is None


def tree_of_rows(machine, rows):
    """The tree that the last target holds when variables and numbers stand for themselves."""
    return tree_read(checked_code(machine, rows))


def tree_read(reader):
    """The tree that the last row that was read puts into its target."""
    trees = []
    for (instruction, row), reads in zip(reader.told, reader.reads):
        inner = {}
        for (leaf, path), operand, number in zip(leaves_of(instruction[2]), row[2], reads):
            if leaf == "num":
                inner[path] = ("num", operand)
            else:
                inner[path] = ("var", operand) if number is None else trees[number]
        trees.append(with_leaves(instruction[2], inner))
    return trees[-1]


def is_code(machine, tree, thing):
    """Whether it is code of the tree."""
    return is_code_of(machine, checked_number_tree(tree), thing)


def is_code_of(machine, tree, thing):
    """Whether it is code of a tree, tuples throughout."""
    reader = Reader(machine)
    if first_wrong(reader, thing) is not None or first_unread(reader) is not None:
        return False
    return tree_read(reader) == tree
