"""What holds of all trees on a machine: whether one can not be had, or not within so many registers."""

from anyprice.errors import BadNumber
from anyprice.firsttrees import first_tree, inner_patterns
from anyprice.kinds import is_int_from


class Reach:
    """In which places nodes of trees can be had within most registers; without a bound if most is None.

    A state is (whether it can be had in memory, HOLD, fits). HOLD is how many registers can be held at most while it
    comes into one, -1 if it can not; without a bound it is 0 for all that can. Fits are, for each inner pattern, the
    ascending holds of its leaves in registers if it fits with leaves that can be had, else None.
    """

    def __init__(self, machine, most):
        self.ways = machine.instructions()
        self.most = most
        self.inner = {pattern: place for place, pattern in enumerate(inner_patterns(machine))}

    def state_of(self, tree, one, other):
        """The state of a tree by those of its parts."""
        fitting = tuple([self.fitting(pattern, tree, one, other) for pattern in self.inner])
        stored, hold = tree[0] == "var", -1
        loads = False
        stores = False
        for _, target, pattern, _ in self.ways:
            if pattern == "mem":
                loads = loads or (target == "reg" and self.held(()) >= 0)
            elif pattern == "reg":
                stores = stores or (target == "mem" and self.held((0,)) >= 0)
            else:
                holds = self.fitting(pattern, tree, one, other)
                if holds is not None and target == "mem":
                    stored = stored or self.held(holds) >= 0
                elif holds is not None:
                    hold = max(hold, self.held(holds))
        stored = stored or (stores and hold >= 0)
        if loads and stored:
            hold = max(hold, self.held(()))
        return stored, hold, fitting

    def fitting(self, pattern, tree, one, other):
        """The ascending holds of the leaves in registers of a pattern that fits at a tree, None if it does not."""
        if pattern == "num":
            return () if tree[0] == "num" else None
        if len(pattern) == 2:
            return () if pattern == tree else None
        if pattern[0] != tree[0]:
            return None
        sides = [self.fitting_below(pattern[1], one), self.fitting_below(pattern[2], other)]
        if sides[0] is None or sides[1] is None:
            return None
        return tuple(sorted(sides[0] + sides[1]))

    def fitting_below(self, pattern, state):
        """Likewise of a side of a pattern, at a part of this state."""
        stored, hold, known = state
        if pattern == "mem":
            return () if stored else None
        if pattern == "reg":
            return (hold,) if hold >= 0 else None
        return known[self.inner[pattern]]

    def held(self, holds):
        """How many registers can be held at most while an instruction with these leaves puts its result into one.

        It can put it into memory where this is not below 0: within no registers none of this matters.
        """
        if self.most is None:
            return 0
        needed = max(1, len(holds))
        return max(-1, min([self.most - needed] + [hold - at for at, hold in enumerate(holds)]))


def bare_tree(machine):
    """The first sample tree that can not be had in a register, None if all can."""
    reach = Reach(machine, None)

    def told_of(tree, one, other):
        return reach.state_of(tree, one, other)

    def is_bare(state):
        return state[1] < 0

    return first_tree(machine, told_of, is_bare)


def over_tree(machine, most):
    """The first sample tree that can be had in a register, but not within most of them, None if there is none."""
    if not is_int_from(most, 0):
        raise BadNumber(most)
    free, bound = Reach(machine, None), Reach(machine, most)

    def told_of(tree, one, other):
        if one is None:
            return free.state_of(tree, None, None), bound.state_of(tree, None, None)
        return free.state_of(tree, one[0], other[0]), bound.state_of(tree, one[1], other[1])

    def is_over(state):
        return state[0][1] >= 0 and state[1][1] < 0

    return first_tree(machine, told_of, is_over)
