"""Promises 17.3 and 17.6 as far as it tells of programs: trees of numbers as programs."""

import unittest

from anyprice.fronts import all_fronts, front
from anyprice.machines import Machine
from anyprice.plans import plan_amount
from anyprice.programs import Program
from anyprice.refusals import BadTree
from anyprice.tops import plan_of
from anyprice.treeplans import tree_program
from helpers import Case, chance_of, plain_fronts, swapped
from machinery import M, T, num, plain_rules, sized, some_machine, some_number_tree, var
from test_trees import NO_TREES

HOW = ("times", "sum", "most")
NOTHING = (0, 0, 0)


def part(thing):
    return (thing, 1, NOTHING)


class TreePrograms(Case):

    def check(self, machine, tree):
        program = self.told(tree_program, machine, tree)
        self.assertEqual(program.own_sorts(), ["flat", "flat", "high"])
        self.assertEqual(program.all_rules(), plain_rules(machine, tree))
        return program

    def test_the_example(self):
        program = self.check(M, T)
        self.assertEqual(front(program, "r0."), [(10, 8, 3), (11, 8, 2)])
        self.assertEqual([rule for rule in program.all_rules() if rule[0] in ("m", "m0")], [
            ("m", (part("r0."),), (2, 2, 1), HOW), ("m0", (), NOTHING, HOW), ("m0", (part("r0.0"),), (2, 2, 1), HOW)])
        self.assertEqual([rule for rule in program.all_rules() if rule[0] == "r1.1"], [
            ("r1.1", (part("m1"),), (2, 2, 2), HOW), ("r1.1", (part("r1.10"), part("r2.11")), (4, 1, 3), HOW),
            ("r1.1", (part("r1.11"), part("r2.10")), (4, 1, 3), HOW)])
        mac = [rule for rule in program.all_rules() if rule[0] == "r0." and len(rule[1]) == 3]
        self.assertEqual(mac, [("r0.", tuple(map(part, parts)), (4, 2, 3), HOW) for parts in (
            ("r0.0", "r1.10", "r2.11"), ("r0.0", "r1.11", "r2.10"), ("r0.10", "r1.0", "r2.11"),
            ("r0.10", "r1.11", "r2.0"), ("r0.11", "r1.0", "r2.10"), ("r0.11", "r1.10", "r2.0"))])

    def test_trees_of_one_node(self):
        program = self.check(M, var("a"))
        self.assertEqual(program.all_rules(), [
            ("m", (), NOTHING, HOW), ("m", (part("r0."),), (2, 2, 1), HOW), ("r0.", (part("m"),), (2, 2, 1), HOW)])
        self.assertEqual(front(program, "r0."), [(2, 2, 1)])
        program = self.check(M, num(5))
        self.assertEqual(all_fronts(program), {"m": [(3, 4, 1)], "r0.": [(1, 2, 1)]})

    def test_where_nothing_makes_it_there_are_no_rules(self):
        for machine, tree in (
            (Machine([]), T), (Machine([]), num(1)), (M.without("li").without("ld"), num(1)),
            (Machine([("mul", "reg", ("mul", "mem", "mem"), (1, 1)), ("st", "mem", "reg", (1, 1))]), T),
        ):
            program = self.check(machine, tree)
            self.assertTrue(program == Program(["flat", "flat", "high"], []))
            self.assertEqual(program.things(), [])

    def test_things_that_nothing_makes(self):
        # Loads of what can not come into memory.
        program = self.check(Machine([("ld", "reg", "mem", (1, 1))]), T)
        self.assertEqual(program.all_rules(), [("r0.", (part("m"),), (1, 1, 1), HOW)])
        self.assertEqual(all_fronts(program), {"m": [], "r0.": []})
        program = self.check(M.without("li"), ("add", num(1), var("a")))
        self.assertEqual(front(program, "r0."), [])

    def test_instructions_without_register_operands(self):
        machine = Machine([
            ("mm", "mem", ("add", "mem", "mem"), (5, 1)), ("ld", "reg", "mem", (1, 1)), ("mi", "mem", "num", (2, 2)),
            ("five", "reg", ("num", 5), (0, 1)), ("cp", "mem", "mem", (1, 1)), ("mv", "reg", "reg", (1, 1)),
        ])
        program = self.check(machine, ("add", var("a"), num(5)))
        self.assertEqual(program.all_rules(), [
            ("m", (part("m0"), part("m1")), (5, 1, 0), HOW), ("m", (part("m"),), (1, 1, 0), HOW),
            ("m0", (), NOTHING, HOW), ("m0", (part("m0"),), (1, 1, 0), HOW),
            ("m1", (), (2, 2, 0), HOW), ("m1", (part("m1"),), (1, 1, 0), HOW),
            ("r0.", (part("m"),), (1, 1, 1), HOW), ("r0.", (part("r0."),), (1, 1, 1), HOW)])
        self.assertEqual(front(program, "r0."), [(8, 4, 1)])
        # A certain number, among others.
        self.assertEqual(front(self.check(machine, num(5)), "r0."), [(0, 1, 1)])
        self.assertEqual(front(self.check(machine, num(4)), "r0."), [(3, 3, 1)])

    def test_leaves_of_several_kinds(self):
        machine = Machine([
            ("ld", "reg", "mem", (1, 1)), ("li", "reg", "num", (1, 1)),
            ("big", "reg", ("add", ("mul", "reg", "mem"), ("sub", ("num", 1), ("add", "reg", "num"))), (2, 3)),
            ("st", "mem", ("mul", "reg", "reg"), (1, 4)),
        ])
        tree = ("add", ("mul", var("a"), var("b")), ("sub", num(1), ("add", var("c"), num(9))))
        program = self.check(machine, tree)
        self.assertIn(("r0.", (part("m01"), part("r0.00"), part("r1.110")), (2, 3, 2), HOW), program.all_rules())
        self.assertIn(("r0.", (part("m01"), part("r0.110"), part("r1.00")), (2, 3, 2), HOW), program.all_rules())
        other = ("add", ("mul", var("a"), var("b")), ("sub", num(2), ("add", var("c"), num(9))))
        self.assertEqual(front(self.check(machine, other), "r0."), [])

    def test_a_store_of_what_was_loaded_is_a_ring(self):
        program = self.check(M, T)
        plan = plan_of(program, "r0.", (11, 8, 2))
        self.assertEqual(plan_amount(program, plan), (11, 8, 2))
        self.assertTrue(any(rule[0] == "m0" and rule[1] == (part("r0.0"),) for rule in program.all_rules()))
        self.assertTrue(any(rule[0] == "r0.0" and rule[1] == (part("m0"),) for rule in program.all_rules()))

    def test_by_chance(self):
        chance = chance_of(173)
        several = 0
        for _ in range(60):
            machine = some_machine(chance, chance.randint(0, 4), chance.choice([0, 0, 1, 2]))
            tree = some_number_tree(chance, chance.randrange(1, 10, 2))
            program = self.check(machine, tree)
            if len(program) < 60:
                self.assertEqual(all_fronts(program), plain_fronts(program))
            several += "r0." in program.things() and len(front(program, "r0.")) > 1
        self.assertGreater(several, 8)

    def test_names_are_only_names(self):
        chance = chance_of(174)
        names = {"a": "z", "b": "y", "c": "x"}

        def renamed(tree):
            if len(tree) == 2:
                return var(names[tree[1]]) if tree[0] == "var" else tree
            return (tree[0], renamed(tree[1]), renamed(tree[2]))

        for _ in range(20):
            machine = some_machine(chance)
            other = Machine([("q" + "abcdefghijklm"[at],) + row[1:] for at, row in enumerate(machine.instructions())])
            tree = some_number_tree(chance, 7)
            self.assertTrue(tree_program(machine, tree) == tree_program(other, renamed(tree)))

    def test_fifteen_nodes_and_twelve_instructions(self):
        chance = chance_of(175)
        for _ in range(6):
            machine = some_machine(chance, 6)
            self.assertEqual(len(machine.instructions()), 12)
            tree = sized(chance, 15, lambda: var(chance.choice("abc")))
            program = self.check(machine, tree)
            amounts = front(program, "r0.")
            self.assertTrue(amounts)
            for amount in amounts[:2] + amounts[-2:]:
                self.assertEqual(plan_amount(program, plan_of(program, "r0.", amount)), amount)

    def test_bad_trees(self):
        for thing in NO_TREES:
            self.refuses(BadTree, "tree", thing, tree_program, M, thing)
        self.assertTrue(tree_program(M, swapped(T)) == tree_program(M, T))


if __name__ == "__main__":
    unittest.main()
