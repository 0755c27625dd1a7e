"""Promises 17.4 and 17.6 as far as it tells of them: trees that can not be had, or not within so many registers."""

import unittest

from anyprice.alltrees import bare_tree, over_tree
from anyprice.errors import BadNumber
from anyprice.fronts import front
from anyprice.machines import Machine
from anyprice.treeplans import tree_program
from helpers import NO_NUMBERS, Case, chance_of
from machinery import M, PLAIN_ROWS, nodes_in, num, sample_trees, sized, some_machine, var


def amounts_of(machine, tree):
    program = tree_program(machine, tree)
    return front(program, "r0.") if "r0." in program.things() else []


def full(height):
    """The tree of additions of the least leaves that is full to a height."""
    return num(0) if height == 0 else ("add", full(height - 1), full(height - 1))


class AllTrees(Case):

    def test_the_example(self):
        self.tells(None, bare_tree, M)
        self.tells(num(0), bare_tree, M.without("li"))
        self.tells(("mul", num(0), num(0)), over_tree, M, 1)

    def test_machines_that_lack_something(self):
        self.tells(num(0), bare_tree, Machine([]))
        self.tells(None, over_tree, Machine([]), 0)
        self.tells(None, over_tree, Machine([]), 3)
        for word, tree in (("add", ("add", num(0), num(0))), ("sub", ("sub", num(0), num(0))), ("mul", ("mul", num(0), num(0)))):
            self.tells(tree, bare_tree, Machine([row + ((1, 1),) for row in PLAIN_ROWS]).without(word))
        # addm stands for add where what is added can be stored.
        self.tells(None, bare_tree, M.without("add"))
        self.tells(var("x"), bare_tree, M.without("ld"))
        self.tells(None, bare_tree, M.without("st"))
        self.tells(("add", num(0), num(0)), bare_tree, M.without("add").without("st"))

    def test_bounds(self):
        self.tells(num(0), over_tree, M, 0)
        self.tells(None, over_tree, M, 2)
        lean = M.without("st").without("addm").without("mac")
        for most in (1, 2, 3, 4):
            self.tells(full(most), over_tree, lean, most)
        # What needs no register below can be put into memory with none, but into no register.
        machine = Machine([("mi", "mem", "num", (1, 1)), ("ld", "reg", "mem", (1, 1)), ("mm", "mem", ("add", "mem", "mem"), (1, 1))])
        self.tells(num(0), over_tree, machine, 0)
        self.tells(None, over_tree, machine, 1)
        self.tells(("mul", num(0), num(0)), bare_tree, machine)

    def test_memory(self):
        rows = [("ld", "reg", "mem", (1, 1)), ("li", "reg", "num", (1, 1)), ("add", "reg", ("add", "reg", "reg"), (1, 1))]
        for further, most, tree in (
            ((), 1, full(1)), ((), 2, full(2)),
            # What is added can be put into memory, by two registers, or by one.
            ((("sa", "mem", ("add", "reg", "reg"), (1, 1)),), 1, full(1)), ((("sa", "mem", ("add", "reg", "reg"), (1, 1)),), 2, None),
            ((("sa", "mem", ("add", "reg", "num"), (1, 1)),), 1, ("add", num(0), var("x"))),
            ((("sa", "mem", ("add", "mem", "mem"), (1, 1)), ("si", "mem", "num", (1, 1))), 1, None),
            ((("st", "mem", "reg", (1, 1)),), 1, full(1)), ((("st", "mem", "reg", (1, 1)),), 2, None),
            # A move is no store, a copy no load, and neither undoes what another instruction does.
            ((("mv", "reg", "reg", (0, 0)),), 2, full(2)), ((("mv", "reg", "reg", (0, 0)), ("st", "mem", "reg", (1, 1)), ("mw", "reg", "reg", (0, 0))), 2, None),
            ((("cp", "mem", "mem", (0, 0)),), 2, full(2)), ((("cp", "mem", "mem", (0, 0)), ("st", "mem", "reg", (1, 1))), 2, None),
        ):
            for machine in (Machine(rows + list(further)), Machine(list(further) + rows), Machine(rows[1:] + list(further) + rows[:1])):
                self.tells(tree, over_tree, machine, most)
                self.tells(("mul", num(0), num(0)), bare_tree, machine)
        copies = Machine([("cp", "mem", "mem", (0, 0)), ("li", "reg", "num", (1, 1)), ("st", "mem", "reg", (1, 1))])
        self.tells(var("x"), bare_tree, copies)
        moves = Machine([("mv", "reg", "reg", (0, 0)), ("ld", "reg", "mem", (1, 1)), ("am", "reg", ("add", "mem", "mem"), (1, 1)), ("li", "reg", "num", (1, 1))])
        self.tells(("add", num(0), num(0)), bare_tree, moves)

    def test_numbers_in_patterns(self):
        machine = Machine([("a", "reg", ("num", 0), (1, 1)), ("b", "reg", ("num", 1), (1, 1)), ("ld", "reg", "mem", (1, 1))])
        self.tells(num(2), bare_tree, machine)
        machine = Machine([("a", "reg", ("num", -1), (1, 1)), ("b", "reg", ("add", "reg", ("num", 7)), (1, 1))])
        self.tells(num(0), bare_tree, machine)
        self.tells(num(-1), over_tree, machine, 0)
        self.tells(None, over_tree, machine, 1)
        machine = Machine([("li", "reg", "num", (1, 1)), ("ld", "reg", "mem", (1, 1)), ("c", "reg", ("mul", ("num", 3), ("sub", "reg", "reg")), (1, 1))])
        self.tells(("add", num(0), num(0)), bare_tree, machine)
        inner = ("mul", num(3), ("sub", num(0), num(0)))
        self.tells(inner, over_tree, machine, 1)
        self.tells(("mul", num(3), ("sub", inner, inner)), over_tree, machine, 2)
        self.tells(None, over_tree, Machine(machine.instructions() + [("st", "mem", "reg", (1, 1))]), 2)

    def test_by_chance_beside_all_sample_trees(self):
        chance = chance_of(174)
        told = {"bare": 0, "over": 0, "none": 0}
        for _ in range(45):
            machine = some_machine(chance, chance.randint(0, 2), chance.choice([0, 1, 1, 2, 3]), most_nodes=5)
            trees = sample_trees(machine, 5)[:1500]
            amounts = [amounts_of(machine, tree) for tree in trees]
            bare = self.told(bare_tree, machine)
            expected = [tree for tree, found in zip(trees, amounts) if not found]
            self.check(trees, expected, bare)
            told["bare"] += bare is not None
            if bare is not None:
                self.assertEqual(amounts_of(machine, bare), [])
            for most in range(5):
                over = self.told(over_tree, machine, most)
                expected = [tree for tree, found in zip(trees, amounts) if found and min(row[2] for row in found) > most]
                self.check(trees, expected, over)
                told["over" if over else "none"] += 1
                if over is not None and nodes_in(over) <= 9:
                    self.assertGreater(min(row[2] for row in amounts_of(machine, over)), most)
        self.assertGreater(min(told.values()), 10)

    def check(self, trees, expected, tree):
        """The told tree is the first one of the expected, or comes behind all trees."""
        if expected:
            self.assertEqual(tree, expected[0])
        elif tree is not None:
            self.assertTrue((nodes_in(tree), tree) > (nodes_in(trees[-1]), trees[-1]))

    def test_none_means_none(self):
        chance = chance_of(175)
        for _ in range(25):
            machine = some_machine(chance, 2, chance.randint(0, 2))
            bare, over = bare_tree(machine), over_tree(machine, 2)
            for _ in range(15):
                found = amounts_of(machine, sized(chance, chance.randrange(1, 10, 2), lambda: chance.choice([var("a"), num(5), num(1)])))
                self.assertTrue(bare or found)
                self.assertTrue(over or not found or min(row[2] for row in found) <= 2)

    def test_plain_machines_need_two_registers(self):
        chance = chance_of(176)
        for _ in range(25):
            machine = some_machine(chance, 2)
            self.tells(None, bare_tree, machine)
            for most in (2, 3, 4):
                self.tells(None, over_tree, machine, most)

    def test_names_are_only_names(self):
        chance = chance_of(177)
        for _ in range(20):
            machine = some_machine(chance, 2, 1)
            other = Machine([("q" + "abcdefghijklm"[at],) + row[1:] for at, row in enumerate(machine.instructions())])
            self.assertEqual(bare_tree(machine), bare_tree(other))
            self.assertEqual(over_tree(machine, 1), over_tree(other, 1))

    def test_numbers(self):
        for number in NO_NUMBERS:
            self.refuses(BadNumber, "number", number, over_tree, M, number)


if __name__ == "__main__":
    unittest.main()
