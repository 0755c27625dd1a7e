"""Sample trees, one behind another in the order of trees, until all that can come of them is known.

That order is: fewer nodes first, then as Python compares them. What a machine does with a tree hangs on the tree's
STATE, and this on its operation and the states of its parts. A tree whose part is changed for the first one of the same
state comes no later: so the first tree of a state is made of first trees, and no others need be looked at.
"""

from heapq import heappop, heappush

from anyprice.patterns import numbers_in
from anyprice.trees import OPERATIONS


def sample_leaves(machine):
    """The ascending list of the numbers in patterns, the least one from 0 on that is in none, and x."""
    known = {number: True for row in machine.instructions() for number in numbers_in(row[2])}
    fresh = 0
    while fresh in known:
        fresh += 1
    return [("num", number) for number in sorted(list(known) + [fresh])] + [("var", "x")]


def first_tree(machine, told_of, is_wanted):
    """The first sample tree whose state is wanted, None if there is none.

    told_of tells the state of a tree by the tree and the states of its parts, (None, None) for a leaf.
    """
    firsts = []
    known = {}
    waiting = []
    for leaf in sample_leaves(machine):
        heappush(waiting, (1, leaf, -1, -1))
    while waiting:
        size, tree, one, other = heappop(waiting)
        parts = (None, None) if one < 0 else (firsts[one][2], firsts[other][2])
        state = told_of(tree, parts[0], parts[1])
        if is_wanted(state):
            return tree
        if state not in known:
            known[state] = True
            firsts.append((size, tree, state))
            for fresh in trees_with_last(firsts):
                heappush(waiting, fresh)
    return None


def trees_with_last(firsts):
    """The list of (size, tree, number of one part, number of the other) of the last of first trees and all of them."""
    last = len(firsts) - 1
    pairs = [(last, number) for number in range(last + 1)] + [(number, last) for number in range(last)]
    return [
        (1 + firsts[one][0] + firsts[other][0], (word, firsts[one][1], firsts[other][1]), one, other)
        for word in OPERATIONS for one, other in pairs
    ]


def inner_patterns(machine):
    """The list of the unlike patterns, but for places of registers and of memory, that stand within others."""
    found = {}
    waiting = [part for row in machine.instructions() for part in both_sides(row[2])]
    while waiting:
        pattern = waiting.pop()
        if pattern not in ("reg", "mem") and pattern not in found:
            found[pattern] = True
            waiting.extend(both_sides(pattern))
    return list(found)


def both_sides(pattern):
    """The two sides of an operation, none of another pattern."""
    return [] if isinstance(pattern, str) or len(pattern) == 2 else [pattern[1], pattern[2]]

