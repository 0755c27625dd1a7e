"""Promises 17.5 and 17.6 as far as it tells of it: needless instructions."""

import unittest

from anyprice.costs import least_cost
from anyprice.errors import BadPrices
from anyprice.machines import Machine
from anyprice.needless import needed_tree
from anyprice.refusals import NoInstruction, Unplain
from anyprice.treeplans import tree_program
from helpers import NO_LISTS, NO_PAIRS, Case, chance_of, some_function
from machinery import M, nodes_in, num, sample_trees, sized, some_machine, var


def cost_of(machine, tree, prices):
    """The least cost of the tree in a register; a register costs next to nothing."""
    great = 10 ** 6
    cost = least_cost(tree_program(machine, tree), "r0.", (prices[0] * great, prices[1] * great, 1))
    return cost // great


class Needless(Case):

    def test_the_example(self):
        self.tells(("add", num(0), var("x")), needed_tree, M, "addm", (1, 1))
        tree = ("add", num(0), var("x"))
        self.assertEqual((cost_of(M, tree, (1, 1)), cost_of(M.without("addm"), tree, (1, 1))), (7, 9))

    def test_needless(self):
        # mac costs six, add and mul seven together.
        self.tells(("add", num(0), ("mul", num(0), num(0))), needed_tree, M, "mac", (1, 1))
        dear = [row if row[0] != "mac" else row[:3] + ((5, 2),) for row in M.instructions()]
        self.tells(None, needed_tree, Machine(dear), "mac", (1, 1))
        rows = M.instructions()
        for further, expected in (
            (("twin", "reg", ("add", "reg", "reg"), (1, 1)), None), (("twin", "reg", ("add", "reg", "reg"), (1, 0)), ("add", num(0), num(0))),
            (("copy", "mem", "mem", (0, 0)), None), (("move", "reg", "reg", (0, 0)), None), (("one", "reg", ("num", 1), (1, 2)), None),
            (("one", "reg", ("num", 1), (1, 1)), num(1)), (("set", "mem", "num", (0, 0)), ("add", num(0), num(0))),
            (("set", "mem", "num", (1, 0)), None), (("set", "mem", "num", (9, 9)), None),
            (("neg", "reg", ("sub", ("num", 0), "mem"), (3, 4)), ("sub", num(0), var("x"))),
        ):
            self.tells(expected, needed_tree, Machine(rows + [further]), further[0], (1, 1))

    def test_prices_matter(self):
        # Five bytes more, one cycle less.
        machine = Machine(M.instructions() + [("quick", "reg", ("mul", "reg", "reg"), (3, 6))])
        self.tells(None, needed_tree, machine, "quick", (1, 1))
        self.tells(None, needed_tree, machine, "quick", (5, 1))
        self.tells(("mul", num(0), num(0)), needed_tree, machine, "quick", (6, 1))

    def test_by_chance_beside_all_sample_trees(self):
        chance = chance_of(175)
        told = {True: 0, False: 0}
        for _ in range(40):
            machine = some_machine(chance, chance.randint(1, 2), most_nodes=5, greatest=4)
            prices = (chance.randint(1, 9), chance.randint(1, 9))
            words = [row[0] for row in machine.instructions() if machine.without(row[0]).is_plain()]
            word = chance.choice(words)
            lean = machine.without(word)
            trees = sample_trees(machine, 5)[:700]
            needed = self.told(needed_tree, machine, word, prices)
            told[needed is None] += 1
            first = [tree for tree in trees if cost_of(lean, tree, prices) > cost_of(machine, tree, prices)][:1]
            if first:
                self.assertEqual(needed, first[0])
            elif needed is not None:
                self.assertTrue((nodes_in(needed), needed) > (nodes_in(trees[-1]), trees[-1]))
                if nodes_in(needed) <= 11:
                    self.assertGreater(cost_of(lean, needed, prices), cost_of(machine, needed, prices))
            if needed is None:
                for _ in range(15):
                    tree = sized(chance, chance.randrange(1, 12, 2), lambda: chance.choice([var("a"), num(5), num(1)]))
                    self.assertEqual(cost_of(lean, tree, prices), cost_of(machine, tree, prices))
        self.assertGreater(min(told.values()), 5)

    def test_eight_instructions_with_patterns_of_seven_nodes(self):
        chance = chance_of(176)
        for _ in range(20):
            machine = some_machine(chance, 2, greatest=9)
            for word in ("xa", "xb"):
                self.told(needed_tree, machine, word, (chance.randint(1, 9), chance.randint(1, 9)))

    def test_errors_in_their_order(self):
        for thing in NO_LISTS + [[], ["ld"], ("ld",), "Ld", "lo", M]:
            self.refuses(NoInstruction, "word", thing, needed_tree, M, thing, (1, 1))
            # Then prices, then what is not plain.
            self.refuses(NoInstruction, "word", thing, needed_tree, M.without("ld"), thing, None)
        for prices in NO_PAIRS + [some_function, (1, 1, 1)]:
            self.refuses(BadPrices, "prices", prices, needed_tree, M, "addm", prices)
            self.refuses(BadPrices, "prices", prices, needed_tree, M, "ld", prices)
        for word in ("ld", "st", "li", "add", "sub", "mul"):
            self.refuses(Unplain, None, None, needed_tree, M, word, (1, 1))
            for other in ("addm", "mac"):
                self.refuses(Unplain, None, None, needed_tree, M.without(word), other, [1, 1])


if __name__ == "__main__":
    unittest.main()
