"""Wholes in their setting: a tested question, a machine and a bound on registers; what they are, and what they take."""

from anyprice.coderows import is_code_of
from anyprice.coderuns import counted_of_rows
from anyprice.errors import BadNumber
from anyprice.kinds import is_int, is_int_from, is_list_of
from anyprice.looks import is_of_the_question, looked_at, mode_of, parts_of
from anyprice.machines import Machine
from anyprice.owns import many_of, own_of, taken_together
from anyprice.refusals import BadMachine
from anyprice.tested import asked_with_tests


def check_machine(machine, registers):
    """BadMachine for any object that is none, BadNumber for registers that are no integer from 1 on."""
    if not isinstance(machine, Machine):
        raise BadMachine(machine)
    if not is_int_from(registers, 1):
        raise BadNumber(registers)


class Setting:
    """A tested question as it is worked with, with the machine and the registers for the code of its tests."""

    def __init__(self, base, tested, machine, registers):
        self.asked = asked_with_tests(base, tested)
        check_machine(machine, registers)
        self.machine = machine
        self.registers = registers

    def is_right(self, thing):
        """Whether it is a whole."""
        if not is_list_of(thing, 2) or not isinstance(thing[1], dict):
            return False
        tree, codes = thing
        if not is_of_the_question(self.asked, looked_at(self.asked, tree)):
            return False
        coming = rows_to_tests(self.asked, tree)
        needed = [number for number in coming if coming[number] > 0]
        if len(codes) != len(needed) or not all([is_int(number) and number in needed for number in codes]):
            return False
        return all([self.is_code_for(number, codes[number]) for number in codes])

    def is_code_for(self, number, thing):
        """Whether it is code of a test's tree within the registers."""
        if not is_code_of(self.machine, self.asked.tests[number][1], thing):
            return False
        return counted_of_rows(self.machine, thing)[2] <= self.registers

    def amount_of(self, whole):
        """The amount (steps, bytes, room) of a whole."""
        tree, codes = whole
        counted = {number: counted_of_rows(self.machine, codes[number]) for number in codes}
        return weighed_whole(self.asked, tree, counted)[1]


def rows_to_tests(asked, tree):
    """The dict from the numbers of the tests in a tree to how many rows come to them."""
    found = {}
    for part in parts_of(tree):
        found.update(rows_to_tests(asked, part))
    if tree[0] == "tested":
        words, _, done = looked_at(asked, tree[1])
        found[tree[2]] = many_of(asked, (words, done))
    return found


def weighed_whole(asked, tree, counted):
    """The pair (state, amount) of a whole tree, by what the codes of its tests count."""
    parts = [weighed_whole(asked, part, counted) for part in parts_of(tree)]
    states = [state for state, _ in parts]
    sizes = [many_of(asked, state) for state in states]
    state, steps, room = own_of(asked, tree, states)
    size = 0
    if tree[0] == "tested" and tree[2] in counted:
        cycles, size, _ = counted[tree[2]]
        steps = steps + sizes[0] * cycles
    return state, taken_together(mode_of(tree), (steps, size, room), [amount for _, amount in parts], sizes)
