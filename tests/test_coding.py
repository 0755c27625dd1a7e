"""Promises 18.3, 18.4 and 18.7 as far as they tell of code: code of plans, and of front amounts."""

import unittest

from anyprice.coderows import is_code, tree_of_rows
from anyprice.coderuns import run_rows
from anyprice.coding import code_for, code_of
from anyprice.errors import BadAmount, BadPlan
from anyprice.fronts import front
from anyprice.levels import level
from anyprice.machines import Machine
from anyprice.plans import plan_amount, plan_thing
from anyprice.refusals import BadTree
from anyprice.tops import plan_of
from anyprice.treeplans import tree_program
from anyprice.trees import worth_of
from helpers import NO_AMOUNTS, NO_LISTS, Case, chance_of, is_at_most, some_plan, swapped
from machinery import M, T, num, shuffled_code, sized, some_machine, some_number_tree, var
from test_trees import NO_TREES

N = Machine([
    ("ld", "reg", "mem", (1, 1)), ("st", "mem", "reg", (1, 1)), ("add", "reg", ("add", "reg", "mem"), (1, 1)),
    ("mul", "reg", ("mul", "reg", "reg"), (1, 1)),
])
X = ("mul", ("mul", var("p"), var("q")), ("mul", var("r"), var("s")))
BOTH = ("mul", ("add", var("a"), X), ("add", var("b"), X))


class Code(Case):

    def check(self, machine, tree, rows, amount):
        """The told rows are code of the tree, and count just the amount when they are run."""
        self.assertTrue(is_code(machine, tree, rows))
        values = {word: 3 + 2 * "abcpqrs".index(word) for word in "abcpqrs"}
        self.assertEqual(run_rows(machine, rows, values), (worth_of(tree, values), amount))
        for row in rows:
            self.assertIsInstance(row, tuple)
            self.assertIsInstance(row[2], tuple)

    def test_the_example(self):
        for amount in ((10, 8, 3), (11, 8, 2)):
            rows = self.told(code_for, M, T, amount)
            self.check(M, T, rows, amount)
            self.assertEqual(run_rows(M, rows, {"a": 2, "b": 3, "c": 5})[0], 17)
        rows = self.told(code_for, N, BOTH, (21, 21, 3))
        self.check(N, BOTH, rows, (21, 21, 3))
        self.assertEqual([row[0] for row in rows].count("st"), 2)

    def test_amounts_that_are_none_of_the_front(self):
        for amount in ((10, 8, 2), (11, 8, 3), (0, 0, 0), (10 ** 20, 0, 1)):
            self.tells(None, code_for, M, T, amount)
        self.tells(None, code_for, M.without("mul").without("mac"), T, (10, 8, 3))
        self.tells(None, code_for, Machine([]), T, (10, 8, 3))
        for thing in NO_AMOUNTS + [(10, 8), (10, 8, 3, 1), (10, 8, True), (10, -8, 3)]:
            self.refuses(BadAmount, "amount", thing, code_for, M, T, thing)

    def test_plans(self):
        program = tree_program(M, T)
        for amount in front(program, "r0."):
            plan = plan_of(program, "r0.", amount)
            self.check(M, T, self.told(code_of, M, T, plan), amount)

    def test_rings(self):
        # A load of what was stored of what was loaded, and a move: plans that are not straight.
        machine = Machine([("mv", "reg", "reg", (1, 0))] + N.instructions())
        rules = tree_program(machine, var("a")).all_rules()
        stores = [number for number, rule in enumerate(rules) if rule[0] == "m" and rule[1]][0]
        bare = [number for number, rule in enumerate(rules) if rule[0] == "m" and not rule[1]][0]
        loads = [number for number, rule in enumerate(rules) if rule[0] == "r0." and rule[1][0][0] == "m"][0]
        moves = [number for number, rule in enumerate(rules) if rule[0] == "r0." and rule[1][0][0] == "r0."][0]
        plan = [(bare, ()), (loads, (0,)), (moves, (1,)), (stores, (2,)), (loads, (3,)), (stores, (4,)), (loads, (5,))]
        rows = self.told(code_of, machine, var("a"), plan)
        self.check(machine, var("a"), rows, (6, 5, 1))
        self.assertEqual([row[0] for row in rows], ["ld", "mv", "st", "ld", "st", "ld"])
        long = [(bare, ()), (loads, (0,))]
        while len(long) < 398:
            long += [(stores, (len(long) - 1,)), (loads, (len(long),)), (moves, (len(long) + 1,))]
        self.assertEqual(len(code_of(machine, var("a"), long)), len(long) - 1)

    def test_any_plan_by_chance(self):
        chance = chance_of(183)
        told = 0
        for _ in range(250):
            machine = some_machine(chance, 4, chance.choice([0, 0, 1]))
            tree = some_number_tree(chance, chance.randrange(1, 6, 2))
            program = tree_program(machine, tree)
            plan = some_plan(chance, program, 30) if len(program) else None
            if plan and plan_thing(program, plan) == "r0.":
                told += 1
                self.check(machine, tree, self.told(code_of, machine, tree, plan), plan_amount(program, plan))
            elif plan:
                self.refuses(BadPlan, "plan", plan, code_of, machine, tree, plan)
        self.assertGreater(told, 20)

    def test_fronts_by_chance(self):
        chance = chance_of(184)
        several = 0
        for _ in range(70):
            machine = some_machine(chance, 4, chance.choice([0, 0, 1]))
            tree = some_number_tree(chance, chance.randrange(1, 12, 2))
            program = tree_program(machine, tree)
            amounts = front(program, "r0.") if "r0." in program.things() else []
            several += len(amounts) > 1
            for amount in amounts:
                rows = self.told(code_for, machine, tree, amount)
                self.check(machine, tree, rows, amount)
                self.check(machine, tree, code_of(machine, tree, plan_of(program, "r0.", amount)), amount)
                # Whatever the order and the names, some amount of the front is at most what it counts.
                other = shuffled_code(chance, machine, rows)
                counted = run_rows(machine, other, {"a": 1, "b": 2, "c": 3})[1]
                self.assertEqual(counted[:2], amount[:2])
                self.assertTrue(any(is_at_most(row, counted) for row in amounts))
        self.assertGreater(several, 15)

    def test_within_registers(self):
        program = tree_program(M, T)
        self.assertEqual(level(program, "r0.", (2,)), [(11, 8)])
        self.assertEqual(level(program, "r0.", (1,)), [])
        self.assertEqual(level(program, "r0.", (3,)), [(10, 8)])

    def test_names_are_only_names(self):
        chance = chance_of(186)
        words = ["var", "num", "reg", "mem", "add", "sub", "mul", "code", "st", "ld", "m", "r"]
        names = {"a": "var", "b": "num", "c": "mem"}

        def turned(tree):
            if len(tree) == 2:
                return var(names[tree[1]]) if tree[0] == "var" else tree
            return (tree[0], turned(tree[1]), turned(tree[2]))

        for _ in range(60):
            machine = some_machine(chance, 4)
            called = dict(zip([row[0] for row in machine.instructions()], chance.sample(words, 10)))
            other = Machine([(called[row[0]],) + row[1:] for row in machine.instructions()])
            tree = some_number_tree(chance, chance.randrange(1, 10, 2))
            for amount in front(tree_program(machine, tree), "r0."):
                rows = [(called[word], target, tuple(names.get(operand, operand) for operand in operands))
                        for word, target, operands in code_for(machine, tree, amount)]
                self.assertEqual(code_for(other, turned(tree), amount), rows)
                self.assertTrue(is_code(other, turned(tree), rows))

    def test_variables_that_are_stored(self):
        machine = Machine([("ld", "reg", "mem", (1, 1)), ("st", "mem", "reg", (1, 1)), ("am", "mem", ("add", "mem", "mem"), (1, 1)),
                           ("mi", "mem", "num", (1, 1)), ("mm", "mem", ("mul", "reg", "mem"), (1, 1))])
        tree = ("mul", ("add", var("a"), num(5)), ("add", var("a"), var("a")))
        amounts = front(tree_program(machine, tree), "r0.")
        for amount in amounts:
            self.check(machine, tree, self.told(code_for, machine, tree, amount), amount)
        self.assertEqual(amounts, [(6, 6, 1)])

    def test_fifteen_nodes(self):
        chance = chance_of(185)
        for _ in range(5):
            machine = some_machine(chance, 6)
            tree = sized(chance, 15, lambda: var(chance.choice("abc")))
            for amount in front(tree_program(machine, tree), "r0.")[:3]:
                self.check(machine, tree, code_for(machine, tree, amount), amount)

    def test_errors_in_their_order(self):
        for thing in NO_TREES:
            self.refuses(BadTree, "tree", thing, code_of, M, thing, None)
            self.refuses(BadTree, "tree", thing, code_for, M, thing, None)
        program = tree_program(M, T)
        plan = plan_of(program, "r0.", (10, 8, 3))
        for thing in NO_LISTS + [[], (), plan[:-1], plan[:1], plan + plan[-1:], [(0, (0,))], [(True, ())], [(10 ** 9, ())], plan_of(program, "m1", (10, 7, 2))]:
            self.refuses(BadPlan, "plan", thing, code_of, M, T, thing)
        self.refuses(BadPlan, "plan", plan, code_of, Machine([]), T, plan)
        self.assertEqual(tree_of_rows(M, code_of(M, swapped(T), swapped(plan))), T)


if __name__ == "__main__":
    unittest.main()
