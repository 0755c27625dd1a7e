"""Runs of wholes: the rows that they make, and what is counted, each code being run for each row that comes to it."""

from anyprice.codereads import checked_code
from anyprice.coderuns import run_read
from anyprice.looks import mode_of, parts_of
from anyprice.operatorruns import operated
from anyprice.owns import taken_together
from anyprice.wholes import checked_whole


def run_whole(base, tested, machine, registers, whole):
    """The pair (rows in the order in which they come, amount counted) of a whole."""
    setting = checked_whole(base, tested, machine, registers, whole)
    tree, codes = whole
    readers = {number: checked_code(machine, codes[number]) for number in codes}
    _, rows, amount = made_with(setting.asked, tree, readers)
    return rows, amount


def made_with(asked, tree, readers):
    """The set, the rows and the counted amount of a whole tree, readers having read the codes of its tests."""
    inner = [made_with(asked, part, readers) for part in parts_of(tree)]
    if tree[0] == "tested":
        words, found, _ = inner[0]
        rows, steps, size = rows_that_meet(asked, words, found, tree[2], readers)
        own = (steps, size, len(found) + len(rows))
    else:
        words, rows, steps, room = operated(asked, tree, [(part, found) for part, found, _ in inner])
        own = (steps, 0, room)
    sizes = [len(found) for _, found, _ in inner]
    return words, rows, taken_together(mode_of(tree), own, [amount for _, _, amount in inner], sizes)


def rows_that_meet(asked, words, rows, number, readers):
    """The rows for which the code of a test brings more than 0, the steps and cycles counted, and the code's bytes."""
    word = asked.tests[number][0]
    columns = asked.tables[word][0]
    place = words.index(word)
    found = []
    steps, size = 0, 0
    for row in rows:
        worth, counted = run_read(readers[number], dict(zip(columns, row[place])))
        steps += 1 + counted[0]
        size = counted[1]
        if worth > 0:
            found.append(row)
    return found, steps, size
