"""Machines: instructions with patterns, and what they take in cycles and bytes."""

from anyprice.kinds import is_amount_of, is_list, is_list_of
from anyprice.patterns import as_pattern, is_pattern
from anyprice.refusals import BadInstruction, NoInstruction
from anyprice.trees import OPERATIONS
from anyprice.words import is_word

PLACES = ("reg", "mem")
PLAIN = (("reg", "mem"), ("mem", "reg"), ("reg", "num"))


def is_instruction(thing):
    """Whether it is (word, place, pattern, (cycles, bytes))."""
    if not is_list_of(thing, 4):
        return False
    word, place, pattern, amount = thing
    return is_word(word) and place in PLACES and is_pattern(pattern) and is_amount_of(amount, 2)


class Machine:
    """Instructions by which results are put into registers and into memory."""

    def __init__(self, instructions):
        if not is_list(instructions):
            raise BadInstruction(0)
        known = {}
        for index, thing in enumerate(instructions):
            if not is_instruction(thing) or thing[0] in known:
                raise BadInstruction(index)
            known[thing[0]] = True
        self._instructions = tuple([
            (word, place, as_pattern(pattern), tuple(amount))
            for word, place, pattern, amount in instructions
        ])

    def instructions(self):
        """The list of the instructions, tuples throughout."""
        return list(self._instructions)

    def without(self, word):
        """The machine without the instruction of this word."""
        if word not in [row[0] for row in self._instructions]:
            raise NoInstruction(word)
        return Machine([row for row in self._instructions if row[0] != word])

    def is_plain(self):
        """Whether it loads, stores, puts numbers into registers, and does each operation of two registers."""
        known = [(row[1], row[2]) for row in self._instructions]
        needed = list(PLAIN) + [("reg", (operation, "reg", "reg")) for operation in OPERATIONS]
        return all([pair in known for pair in needed])

    def __eq__(self, other):
        return isinstance(other, Machine) and self._instructions == other._instructions
