"""Rows of code: whether they are some, and whose results their operands read."""

from anyprice.kinds import is_int, is_int_from, is_list, is_list_of
from anyprice.patterns import leaves_of
from anyprice.refusals import BadRows
from anyprice.words import is_word


class Reader:
    """Rows of code of a machine, read one behind another.

    Told are, for each row, its instruction and its row as tuples; and for each of its operands the number of the row
    whose result it reads, None where it reads none.
    """

    def __init__(self, machine):
        self.known = {row[0]: row for row in machine.instructions()}
        self.told = []
        self.reads = []
        self.written = {}

    def read(self, thing):
        """Whether the thing is a row that can stand behind those that were read; it is read then."""
        if not is_list_of(thing, 3) or not isinstance(thing[0], str) or thing[0] not in self.known:
            return False
        word, target, operands = thing
        instruction = self.known[word]
        leaves = leaves_of(instruction[2])
        if not is_int_from(target, 0) or not is_list_of(operands, len(leaves)):
            return False
        if not all([self.can_be_read(leaf[0], operand) for leaf, operand in zip(leaves, operands)]):
            return False
        places = [(leaf[0], operand) for leaf, operand in zip(leaves, operands)]
        self.reads.append([self.written.get(place, None) for place in places])
        self.written[(instruction[1], target)] = len(self.told)
        self.told.append((instruction, (word, target, tuple(operands))))
        return True

    def can_be_read(self, leaf, operand):
        """Whether an operand can stand for a leaf: what it reads is written, or it is a variable or a number."""
        if leaf == "num":
            return is_int(operand)
        if leaf == "mem" and is_word(operand):
            return True
        return is_int_from(operand, 0) and (leaf, operand) in self.written


def first_wrong(reader, thing):
    """The number of the first thing of a list that is no row, None for rows of code; all ahead of it are read."""
    if not is_list(thing) or len(thing) == 0:
        return 0
    for index, row in enumerate(thing):
        if not reader.read(row):
            return index
    return None


def checked_code(machine, rows):
    """A reader that has read the rows; BadRows with the first thing that is none."""
    reader = Reader(machine)
    index = first_wrong(reader, rows)
    if index is not None:
        raise BadRows(index)
    return reader


def read_counts(reader):
    """The list, row by row, of how many operands read its result."""
    counts = [0] * len(reader.told)
    for reads in reader.reads:
        for number in reads:
            if number is not None:
                counts[number] += 1
    return counts


def first_unread(reader):
    """The number of the first row whose result is not read just once, or the last one's if it is in memory; or None."""
    counts = read_counts(reader)
    last = len(counts) - 1
    for number in range(last):
        if counts[number] != 1:
            return number
    return last if reader.told[last][0][1] == "mem" else None
