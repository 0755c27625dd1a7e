"""Orders of code: how few registers its rows need in the best one, and how many orders there are."""

from math import factorial

from anyprice.codereads import checked_code, first_unread
from anyprice.layouts import Layout
from anyprice.patterns import leaves_of
from anyprice.refusals import BadCode


def checked_reading(machine, rows):
    """A reader that has read code; BadRows for what are no rows, BadCode for the first one that is not read once."""
    reader = checked_code(machine, rows)
    index = first_unread(reader)
    if index is not None:
        raise BadCode(index)
    return reader


def fewest_registers(machine, rows):
    """The pair (least number of registers of the same rows in any order, such rows)."""
    reader = checked_reading(machine, rows)
    needs = []
    nodes = []
    for (instruction, row), reads in zip(reader.told, reader.reads):
        word, place, pattern, _ = instruction
        leaves = [leaf for leaf, _ in leaves_of(pattern)]
        kept = [at for at, leaf in enumerate(leaves) if leaf == "reg"]
        ranked = sorted([(-needs[reads[at]], at) for at in kept])
        order = [pair[1] for pair in ranked]
        least = max(len(kept), 1 if place == "reg" else 0)
        needs.append(max([least] + [needs[reads[at]] + ahead for ahead, at in enumerate(order)]))
        operands = [
            (leaf, operand if number is None else number)
            for leaf, operand, number in zip(leaves, row[2], reads)
        ]
        nodes.append((word, place, operands, order))
    return max(needs), Layout(nodes).put_all(len(nodes) - 1)


def orders_of(machine, rows):
    """The number of orders in which the rows can stand, each behind those that it reads."""
    reader = checked_reading(machine, rows)
    sizes = []
    divisor = 1
    for reads in reader.reads:
        sizes.append(1 + sum([sizes[number] for number in reads if number is not None]))
        divisor = divisor * sizes[-1]
    return factorial(len(sizes)) // divisor
