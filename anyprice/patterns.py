"""Patterns of instructions: what they are, and where their leaves come to lie in trees."""

from anyprice.kinds import is_int, is_list, is_list_of
from anyprice.trees import OPERATIONS

LEAVES = ("reg", "mem", "num")


def is_pattern(thing):
    """Whether it is a leaf, a certain number, or an operation of two patterns."""
    if isinstance(thing, str):
        return thing in LEAVES
    if not is_list(thing):
        return False
    if len(thing) == 2:
        return thing[0] == "num" and is_int(thing[1])
    return is_list_of(thing, 3) and thing[0] in OPERATIONS and is_pattern(thing[1]) and is_pattern(thing[2])


def as_pattern(pattern):
    """The pattern as tuples throughout."""
    if isinstance(pattern, str) or len(pattern) == 2:
        return pattern if isinstance(pattern, str) else tuple(pattern)
    return pattern[0], as_pattern(pattern[1]), as_pattern(pattern[2])


def leaves_of(pattern, path=""):
    """The list of the pairs (leaf, path of its node) of a pattern, from left to right."""
    if isinstance(pattern, str):
        return [(pattern, path)]
    if len(pattern) == 2:
        return []
    return leaves_of(pattern[1], path + "0") + leaves_of(pattern[2], path + "1")


def fits(pattern, tree):
    """Whether the pattern fits at the tree's whole."""
    if isinstance(pattern, str):
        return pattern != "num" or tree[0] == "num"
    if len(pattern) == 2:
        return pattern == tree
    return pattern[0] == tree[0] and fits(pattern[1], tree[1]) and fits(pattern[2], tree[2])


def with_leaves(pattern, inner, path=""):
    """The tree that a pattern is with inner trees, a dict from paths, in the places of its leaves."""
    if path in inner:
        return inner[path]
    if len(pattern) == 2:
        return pattern
    return pattern[0], with_leaves(pattern[1], inner, path + "0"), with_leaves(pattern[2], inner, path + "1")


def numbers_in(pattern):
    """The list of the numbers that stand in a pattern."""
    if isinstance(pattern, str):
        return []
    return [pattern[1]] if len(pattern) == 2 else numbers_in(pattern[1]) + numbers_in(pattern[2])
