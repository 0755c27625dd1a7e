"""Runs of code: what comes out, and what is counted as its rows are done one behind another."""

from anyprice.codereads import checked_code
from anyprice.patterns import leaves_of, with_leaves
from anyprice.trees import check_values, worth


def run_rows(machine, rows, values):
    """The pair (worth of the last target, (cycles, bytes, registers counted))."""
    reader = checked_code(machine, rows)
    words = [operand for _, row in reader.told for operand in row[2] if isinstance(operand, str)]
    check_values(sorted(set(words)), values)
    return run_read(reader, values)


def counted_of_rows(machine, rows):
    """What rows of code count, whatever the values: cycles, bytes, registers."""
    reader = checked_code(machine, rows)
    amounts = [instruction[3] for instruction, _ in reader.told]
    targets = [row[1] for instruction, row in reader.told if instruction[1] == "reg"]
    return sum([amount[0] for amount in amounts]), sum([amount[1] for amount in amounts]), len(set(targets))


def run_read(reader, values):
    """Likewise of rows that were read, with values for all of their words."""
    held = {}
    registers = {}
    cycles, size, result = 0, 0, 0
    for instruction, row in reader.told:
        _, place, pattern, amount = instruction
        inner = {}
        for (leaf, path), operand in zip(leaves_of(pattern), row[2]):
            if leaf == "num":
                number = operand
            else:
                number = values[operand] if isinstance(operand, str) else held[(leaf, operand)]
            inner[path] = ("num", number)
        result = worth(with_leaves(pattern, inner), {})
        held[(place, row[1])] = result
        if place == "reg":
            registers[row[1]] = True
        cycles += amount[0]
        size += amount[1]
    return result, (cycles, size, len(registers))
