"""Promises 18.1, 18.3 and 18.2 as far as it tells of trees: rows of code."""

import unittest

from anyprice.coderows import is_code, is_rows, tree_of_rows
from anyprice.coding import code_for
from anyprice.fronts import front
from anyprice.machines import Machine
from anyprice.refusals import BadRows, BadTree
from anyprice.treeplans import tree_program
from anyprice.trees import worth_of
from helpers import EXAMPLE, NO_INTEGERS, NO_LISTS, Case, chance_of, some_function, swapped
from machinery import M, T, leaves_in, num, plain_run, shuffled_code, some_machine, some_number_tree, var, words_of
from test_trees import NO_TREES

CODE = [("ld", 0, ("b",)), ("ld", 1, ("c",)), ("mul", 0, (0, 1)), ("ld", 1, ("a",)), ("add", 0, (1, 0))]
LOAD = ("ld", 0, ("a",))


def some_rows(chance, machine, many):
    """Rows by chance: results are read by none, once or twice; registers and cells are written over."""
    written = {"reg": [], "mem": []}
    rows = []
    while len(rows) < many:
        word, place, pattern, _ = chance.choice(machine.instructions())
        leaves = leaves_in(pattern)
        if "reg" in leaves and not written["reg"]:
            continue
        operands = []
        for leaf in leaves:
            if leaf == "num":
                operands.append(chance.choice([0, 1, -3, 7]))
            elif leaf == "mem" and (not written["mem"] or chance.random() < .5):
                operands.append(chance.choice("abc"))
            else:
                operands.append(chance.choice(written[leaf]))
        target = chance.choice([0, 1, 2, 7, 900])
        rows.append((word, target, tuple(operands)))
        written[place].append(target)
    return rows


def small_enough(tree):
    return len(str(tree)) < 3000


class Rows(Case):

    def test_rows(self):
        self.tells(True, is_rows, M, CODE)
        for rows in ([LOAD], [("li", 10 ** 20, (-5,))], [LOAD, ("st", 3, (0,)), ("ld", 0, (3,))], [LOAD, LOAD, LOAD], [LOAD, ("add", 0, (0, 0))],
                     [LOAD, ("st", 0, (0,)), ("ld", 1, (0,))], [LOAD, ("addm", 5, (0, "abcdefgh"))], [["li", 0, [1]], ["st", 7, [0]]]):
            self.tells(True, is_rows, M, rows)
            self.tells(True, is_rows, M, swapped(rows))

    def check_bad(self, index, rows):
        self.tells(False, is_rows, M, rows)
        self.tells(False, is_code, M, T, rows)
        self.refuses(BadRows, "index", index, tree_of_rows, M, rows)

    def test_any_object(self):
        for thing in NO_LISTS + [[], ()]:
            self.check_bad(0, thing)
        bad = NO_LISTS + [
            [], (), LOAD[:2], LOAD + (1,), "ld0", ("Ld", 0, ("a",)), ("lx", 0, ("a",)), (None, 0, ("a",)), (["ld"], 0, ("a",)), (0, 0, 0), ("ld", -1, ("a",)),
            ("ld", True, ("a",)), ("ld", None, ("a",)), ("ld", "0", ("a",)), ("ld", "a", ("a",)), ("ld", (0,), ("a",)), ("ld", 0, "a"), ("ld", 0, None),
            ("ld", 0, 0), ("ld", 0, ()), ("ld", 0, ("a", "b")), ("ld", 0, ("A",)), ("ld", 0, ("",)), ("ld", 0, ("abcdefghi",)), ("ld", 0, (None,)),
            ("ld", 0, (True,)), ("ld", 0, (-1,)), ("ld", 0, (["a"],)), ("ld", 0, (("a",),)), ("li", 0, ("a",)), ("li", 0, (None,)), ("li", 0, ((1,),)),
            ("add", 0, (0,)), ("add", 0, (0, 0, 0)), ("add", 0, ("a", "a")), ("st", 0, ("a",)), {0: LOAD}, (some_function, 0, ("a",)), (EXAMPLE, 0, ("a",)),
        ]
        for number in NO_INTEGERS:
            bad.append(("li", 0, (number,)))
        for thing in bad:
            self.check_bad(0, [thing])
            self.check_bad(1, [LOAD, thing])
            self.check_bad(2, [LOAD, ("st", 0, (0,)), thing, thing])

    def test_what_no_earlier_row_writes(self):
        self.check_bad(0, [("add", 0, (0, 0))])
        self.check_bad(0, [("st", 0, (0,))])
        self.check_bad(0, [("ld", 0, (0,))])
        self.check_bad(1, [LOAD, ("add", 0, (0, 1)), ("ld", 1, ("a",))])
        # Registers and cells of one number are two places.
        self.check_bad(1, [LOAD, ("ld", 1, (0,))])
        self.check_bad(2, [LOAD, ("st", 5, (0,)), ("add", 1, (0, 5))])
        self.check_bad(1, [LOAD, ("add", 1, (0, True))])
        self.check_bad(1, [LOAD, ("add", 1, (False, 0))])
        # Its own target counts only if an earlier row writes it.
        self.check_bad(1, [LOAD, ("addm", 0, (0, 0))])
        self.check_bad(1, [LOAD, ("add", 3, (3, 0))])

    def test_trees(self):
        self.tells(T, tree_of_rows, M, CODE)
        self.tells(var("a"), tree_of_rows, M, [LOAD])
        self.tells(num(-5), tree_of_rows, M, [("li", 9, [-5])])
        two = [LOAD, ("li", 1, (4,)), ("sub", 0, (0, 1)), ("sub", 2, (0, 0)), ("li", 0, (8,))]
        self.tells(num(8), tree_of_rows, M, two)
        self.tells(("sub", ("sub", var("a"), num(4)), ("sub", var("a"), num(4))), tree_of_rows, M, two[:4])
        # The last target may be one that was written before, or a cell.
        self.tells(("add", var("a"), var("a")), tree_of_rows, M, [LOAD, ("add", 0, (0, 0)), ("st", 4, (0,))])
        machine = Machine([("k", "mem", ("add", ("num", 7), ("mul", "num", "mem")), (1, 1)), ("ld", "reg", "mem", (1, 1))])
        self.tells(("add", num(7), ("mul", num(2), ("add", num(7), ("mul", num(3), var("x"))))), tree_of_rows, machine,
                   [("k", 0, (3, "x")), ("k", 0, (2, 0)), ("ld", 5, (0,))])

    def test_code(self):
        self.tells(True, is_code, M, T, CODE)
        self.tells(True, is_code, M, swapped(T), swapped(CODE))
        self.tells(False, is_code, M, ("add", var("a"), ("mul", var("c"), var("b"))), CODE)
        self.tells(True, is_code, M, T, [("ld", 7, ("a",)), ("ld", 900, ("b",)), ("ld", 3, ("c",)), ("mac", 7, (7, 900, 3))])
        self.tells(True, is_code, M, var("a"), [LOAD])
        self.tells(True, is_code, M, var("a"), [LOAD, ("st", 0, (0,)), ("ld", 0, (0,))])
        double = ("add", var("a"), var("a"))
        # Variables are read as often as one likes, results once.
        self.tells(True, is_code, M, double, [LOAD, ("addm", 0, (0, "a"))])
        self.tells(True, is_code, M, double, [LOAD, ("ld", 1, ("a",)), ("add", 0, (0, 1))])
        self.tells(False, is_code, M, double, [LOAD, ("add", 0, (0, 0))])
        self.tells(False, is_code, M, double, [LOAD, ("st", 0, (0,)), ("addm", 0, (0, 0))])
        self.tells(False, is_code, M, var("a"), [LOAD, LOAD])
        self.tells(False, is_code, M, var("a"), [("li", 4, (1,)), LOAD])
        self.tells(False, is_code, M, var("a"), [LOAD, ("st", 0, (0,))])
        self.tells(False, is_code, M, var("a"), [LOAD, ("st", 0, (0,)), ("st", 1, (0,)), ("ld", 0, (0,))])
        # Written over before it is read.
        self.tells(False, is_code, M, num(2), [("li", 0, (1,)), ("li", 0, (2,))])
        self.tells(False, is_code, M.without("mul"), T, CODE)

    def test_by_chance(self):
        chance = chance_of(181)
        kinds = {True: 0, False: 0}
        for _ in range(250):
            machine = some_machine(chance, 3, 0)
            rows = some_rows(chance, machine, chance.randint(1, 8))
            self.tells(True, is_rows, machine, rows)
            tree = tree_of_rows(machine, rows)
            if small_enough(tree):
                self.tells(tree, tree_of_rows, machine, rows)
                values = {word: chance.randint(-9, 9) for word in "abc"}
                self.assertEqual(worth_of(tree, values), plain_run(machine, rows, values)[0])
                expected = self.plain_is_code(machine, rows)
                kinds[expected] += 1
                self.tells(expected, is_code, machine, tree, rows)
        self.assertGreater(min(kinds.values()), 20)

    def plain_is_code(self, machine, rows):
        """By the words: each operand's row, by going back from it."""
        known = {row[0]: row for row in machine.instructions()}
        counts = [0] * len(rows)
        for at, (word, _, operands) in enumerate(rows):
            for leaf, operand in zip(leaves_in(known[word][2]), operands):
                if leaf != "num" and not isinstance(operand, str):
                    counts[max(back for back in range(at) if rows[back][1] == operand and known[rows[back][0]][1] == leaf)] += 1
        return counts[:-1] == [1] * (len(rows) - 1) and known[rows[-1][0]][1] == "reg"

    def test_code_in_any_order_with_any_names(self):
        chance = chance_of(182)
        for _ in range(60):
            machine = some_machine(chance, 3)
            tree = some_number_tree(chance, chance.randrange(1, 10, 2))
            amount = chance.choice(front(tree_program(machine, tree), "r0."))
            rows = shuffled_code(chance, machine, code_for(machine, tree, amount))
            self.tells(True, is_code, machine, tree, rows)
            self.tells(tree, tree_of_rows, machine, rows)
            self.assertEqual(words_of(tree), words_of(tree_of_rows(machine, rows)))

    def test_forty_rows_and_two_hundred_nodes(self):
        rows = [LOAD] + [("addm", 0, (0, "a"))] * 39
        tree = var("a")
        for _ in range(39):
            tree = ("add", tree, var("a"))
        self.tells(True, is_code, M, tree, rows)
        self.tells(tree, tree_of_rows, M, rows)

    def test_names_are_only_names(self):
        chance = chance_of(183)
        for _ in range(30):
            machine = some_machine(chance, 2)
            rows = some_rows(chance, machine, 6)
            names = {row[0]: "q" + "abcdefghijklm"[at] for at, row in enumerate(machine.instructions())}
            other = Machine([(names[row[0]],) + row[1:] for row in machine.instructions()])
            turned = [(names[word], target, operands) for word, target, operands in rows]
            if small_enough(tree_of_rows(machine, rows)):
                self.assertEqual(tree_of_rows(machine, rows), tree_of_rows(other, turned))

    def test_bad_trees_are_ahead(self):
        for thing in NO_TREES:
            self.refuses(BadTree, "tree", thing, is_code, M, thing, CODE)
            self.refuses(BadTree, "tree", thing, is_code, M, thing, None)


if __name__ == "__main__":
    unittest.main()
