"""Promises 18.5, 18.6 and 18.7 as far as it tells of them: orders of code, and how few registers it needs."""

import unittest

from anyprice.coderows import is_code
from anyprice.coderuns import run_rows
from anyprice.coding import code_for
from anyprice.fronts import front
from anyprice.machines import Machine
from anyprice.orders import fewest_registers, orders_of
from anyprice.refusals import BadCode, BadRows
from anyprice.treeplans import tree_program
from helpers import NO_LISTS, Case, chance_of, swapped
from machinery import M, leaves_in, plain_reads, shuffled_code, some_machine, some_number_tree
from test_coderows import CODE, LOAD
from test_coding import BOTH, N, X


def all_orders(reads):
    """All orders in which rows can stand."""
    def further(order):
        if len(order) == len(reads):
            yield order
        for number, read in enumerate(reads):
            if number not in order and all(inner in order for _, inner in read):
                yield from further(order + [number])
    return list(further([]))


def registers_of(machine, rows, reads, order):
    """How many registers an order needs: the most results that are in registers at once."""
    known = {row[0]: row for row in machine.instructions()}
    held, most = set(), 0
    for number in order:
        held -= {inner for leaf, inner in reads[number] if leaf == "reg"}
        if known[rows[number][0]][1] == "reg":
            held.add(number)
        most = max(most, len(held))
    return most


def rows_and_reads(machine, rows):
    """What stays the same of code in any order: its rows as a tree, each with what it reads below it."""
    reads = plain_reads(machine, rows)

    def told(number):
        word, _, operands = rows[number]
        inner = iter([told(read) for _, read in reads[number]])
        known = {row[0]: row for row in machine.instructions()}
        return (word, tuple(operand if leaf == "num" or isinstance(operand, str) else next(inner)
                            for leaf, operand in zip(leaves_in(known[word][2]), operands)))
    return told(len(rows) - 1)


class Orders(Case):

    def check(self, machine, rows):
        number, better = self.told(fewest_registers, machine, rows)
        self.assertEqual(rows_and_reads(machine, rows), rows_and_reads(machine, better))
        values = {word: 1 for word in "abcpqrs"}
        counted = run_rows(machine, better, values)[1]
        self.assertEqual(counted[2], number)
        self.assertEqual(counted[:2], run_rows(machine, rows, values)[1][:2])
        self.assertEqual(len(better), len(rows))
        return number

    def test_the_example(self):
        self.assertEqual(self.check(M, CODE), 2)
        self.tells(8, orders_of, M, CODE)
        rows = [("ld", 2, ("a",)), ("ld", 0, ("b",)), ("ld", 1, ("c",)), ("mul", 0, (0, 1)), ("add", 0, (2, 0))]
        self.assertEqual(self.check(M, rows), 2)
        self.tells(8, orders_of, M, rows)

    def test_pieces(self):
        stored = code_for(N, BOTH, (21, 21, 3))
        self.assertEqual(self.check(N, stored), 3)
        # One side behind the other, each X being stored when it is wanted, takes four.
        side = [("ld", 1, ("p",)), ("ld", 2, ("q",)), ("mul", 1, (1, 2)), ("ld", 2, ("r",)), ("ld", 3, ("s",)), ("mul", 2, (2, 3)), ("mul", 1, (1, 2)),
                ("st", 0, (1,)), ("ld", 1, ("b",)), ("add", 1, (1, 0))]
        first = [(word, target if word == "st" else target - 1, operands if isinstance(operands[0], str) else
                  tuple(number - (not (word == "add" and at)) for at, number in enumerate(operands))) for word, target, operands in side]
        first[-2] = ("ld", 0, ("a",))
        rows = first + side + [("mul", 0, (0, 1))]
        self.assertTrue(is_code(N, BOTH, rows))
        self.assertEqual(run_rows(N, rows, {word: 1 for word in "abpqrs"})[1], (21, 21, 4))
        self.assertEqual(self.check(N, rows), 3)

    def test_needs(self):
        self.assertEqual(self.check(M, [LOAD]), 1)
        self.tells(1, orders_of, M, [LOAD])
        machine = Machine([("mi", "mem", "num", (1, 1)), ("am", "mem", ("add", "mem", "mem"), (1, 1)), ("ld", "reg", "mem", (1, 1))])
        rows = [("mi", 5, (1,)), ("am", 6, (5, "a")), ("ld", 3, (6,))]
        self.assertEqual(self.check(machine, rows), 1)
        self.tells(1, orders_of, machine, rows)
        full = code_for(N, X, front(tree_program(N, X), "r0.")[0])
        self.assertEqual(self.check(N, full), 3)
        self.tells(80, orders_of, N, full)

    def test_by_chance_beside_all_orders(self):
        chance = chance_of(185)
        seen = {1: 0, 2: 0, 3: 0}
        for _ in range(150):
            machine = some_machine(chance, 4)
            tree = some_number_tree(chance, chance.randrange(1, 10, 2))
            rows = code_for(machine, tree, chance.choice(front(tree_program(machine, tree), "r0.")))
            if len(rows) <= 8:
                rows = shuffled_code(chance, machine, rows)
                number = self.check(machine, rows)
                self.assertTrue(is_code(machine, tree, fewest_registers(machine, rows)[1]))
                reads = plain_reads(machine, rows)
                orders = all_orders(reads)
                self.tells(len(orders), orders_of, machine, rows)
                self.assertEqual(number, min(registers_of(machine, rows, reads, order) for order in orders))
                seen[min(3, number)] += 1
        self.assertGreater(min(seen.values()), 5)

    def test_twelve_rows(self):
        chance = chance_of(186)
        for _ in range(5):
            tree = some_number_tree(chance, 11)
            rows = shuffled_code(chance, M, code_for(M, tree, front(tree_program(M, tree), "r0.")[-1]))
            self.check(M, rows)
            self.told(orders_of, M, rows)

    def test_results_that_are_not_read_once(self):
        for rows, index in (
            ([LOAD, LOAD], 0), ([LOAD, ("add", 0, (0, 0))], 0), ([LOAD, ("st", 0, (0,))], 1), ([LOAD, ("li", 1, (3,)), ("addm", 0, (0, "b"))], 1),
            ([LOAD, ("st", 0, (0,)), ("ld", 1, (0,)), ("addm", 1, (1, 0))], 1), ([("li", 0, (1,)), ("li", 0, (2,)), ("st", 4, (0,))], 0),
            ([LOAD, ("st", 0, (0,)), ("li", 0, (1,))], 1),
        ):
            self.refuses(BadCode, "index", index, fewest_registers, M, rows)
            self.refuses(BadCode, "index", index, orders_of, M, rows)

    def test_bad_rows_are_ahead(self):
        for thing in NO_LISTS + [[], ()]:
            self.refuses(BadRows, "index", 0, fewest_registers, M, thing)
            self.refuses(BadRows, "index", 0, orders_of, M, thing)
        for rows in ([LOAD, LOAD, ("add", 0, (0, 7))], [LOAD, LOAD, None]):
            self.refuses(BadRows, "index", 2, fewest_registers, M, rows)
            self.refuses(BadRows, "index", 2, orders_of, M, rows)
        self.assertEqual(fewest_registers(M, swapped(CODE)), fewest_registers(M, CODE))

    def test_names_are_only_names(self):
        rows = [("ld", 7, ("b",)), ("ld", 900, ("c",)), ("mul", 7, (7, 900)), ("ld", 3, ("a",)), ("add", 12, (3, 7))]
        self.assertEqual(fewest_registers(M, rows), fewest_registers(M, CODE))


if __name__ == "__main__":
    unittest.main()
