"""Needless instructions: those without which no tree costs more, registers being for nothing."""

from anyprice.checks import check_prices_of
from anyprice.firsttrees import first_tree, inner_patterns
from anyprice.products import product_of
from anyprice.refusals import Unplain


class Costs:
    """What nodes of trees cost least on a plain machine at prices of a cycle and of a byte.

    A state is (cost in memory, cost in a register, costs of the inner patterns' leaves, None for such as do not fit).
    """

    def __init__(self, machine, prices, inner):
        rows = machine.instructions()
        self.ways = [(place, pattern, product_of(amount, prices)) for _, place, pattern, amount in rows]
        self.inner = {pattern: place for place, pattern in enumerate(inner)}

    def state_of(self, tree, one, other):
        """The state of a tree by those of its parts."""
        fitting = tuple([self.fitting(pattern, tree, one, other) for pattern in self.inner])
        found = {"mem": [0] if tree[0] == "var" else [], "reg": []}
        turns = {"mem": [], "reg": []}
        for place, pattern, worth in self.ways:
            if pattern in ("mem", "reg"):
                if pattern != place:
                    turns[place].append(worth)
            else:
                limit = self.fitting(pattern, tree, one, other)
                if limit is not None:
                    found[place].append(limit + worth)
        for place, source in (("mem", "reg"), ("reg", "mem")):
            if found[source]:
                found[place].extend([min(found[source]) + worth for worth in turns[place]])
        return min(found["mem"]), min(found["reg"]), fitting

    def fitting(self, pattern, tree, one, other):
        """What the leaves of a pattern cost that fits at a tree, None if it does not."""
        if pattern == "num":
            return 0 if tree[0] == "num" else None
        if len(pattern) == 2:
            return 0 if pattern == tree else None
        if pattern[0] != tree[0]:
            return None
        sides = [self.fitting_below(pattern[1], one), self.fitting_below(pattern[2], other)]
        return None if sides[0] is None or sides[1] is None else sides[0] + sides[1]

    def fitting_below(self, pattern, state):
        """Likewise of a side of a pattern, at a part of this state."""
        stored, kept, known = state
        if pattern == "mem":
            return stored
        return kept if pattern == "reg" else known[self.inner[pattern]]


def less_register(state):
    """A state by what is dearer in it than a register; this costs the same with the instruction and without it."""
    stored, kept, known = state
    return stored - kept, 0, tuple([None if worth is None else worth - kept for worth in known])


def needed_tree(machine, word, prices):
    """The first sample tree that costs more without the instruction of this word, None if there is none."""
    lean = machine.without(word)
    check_prices_of(2, prices)
    if not lean.is_plain():
        raise Unplain()
    full = Costs(machine, prices, inner_patterns(machine))
    bare = Costs(lean, prices, inner_patterns(lean))

    def told_of(tree, one, other):
        if one is None:
            states = full.state_of(tree, None, None), bare.state_of(tree, None, None)
        else:
            states = full.state_of(tree, one[0], other[0]), bare.state_of(tree, one[1], other[1])
        return less_register(states[0]), less_register(states[1]), states[1][1] > states[0][1]

    def is_needed(state):
        return state[2]

    return first_tree(machine, told_of, is_needed)
