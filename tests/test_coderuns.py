"""Promise 18.2, and 18.7 as far as it tells of runs: runs of code."""

import unittest

from anyprice.coderows import tree_of_rows
from anyprice.coderuns import run_rows
from anyprice.refusals import BadRows, BadValues
from anyprice.trees import worth_of
from helpers import EXAMPLE, NO_INTEGERS, NO_LISTS, Case, chance_of, some_function
from machinery import M, plain_run, some_machine
from test_coderows import CODE, LOAD, small_enough, some_rows

VALUES = {"a": 2, "b": 3, "c": 5}


class Runs(Case):

    def test_the_example(self):
        self.tells((17, (11, 8, 2)), run_rows, M, CODE, VALUES)
        rows = [("ld", 2, ("a",)), ("ld", 0, ("b",)), ("ld", 1, ("c",)), ("mul", 0, (0, 1)), ("add", 0, (2, 0))]
        self.tells((17, (11, 8, 3)), run_rows, M, rows, VALUES)

    def test_what_is_counted(self):
        self.tells((2, (2, 2, 1)), run_rows, M, [LOAD], VALUES)
        self.tells((2, (4, 4, 1)), run_rows, M, [LOAD, ("ld", 0, ("a",))], VALUES)
        self.tells((3, (4, 4, 2)), run_rows, M, [LOAD, ("ld", 9, ("b",))], VALUES)
        # Cells are no registers; the last target is one that stores.
        self.tells((2, (4, 4, 1)), run_rows, M, [LOAD, ("st", 7, (0,))], VALUES)
        self.tells((-7, (1, 2, 1)), run_rows, M, [("li", 900, (-7,))], {})
        # Written over, read twice, read by none.
        rows = [LOAD, ("st", 0, (0,)), ("ld", 0, ("b",)), ("st", 0, (0,)), ("ld", 1, (0,)), ("add", 0, (0, 1)), ("mul", 0, (0, 0)), ("sub", 5, (0, 1))]
        self.tells((33, (16, 13, 3)), run_rows, M, rows, VALUES)

    def test_operands_are_read_ahead_of_the_target(self):
        self.tells((-1, (5, 5, 2)), run_rows, M, [LOAD, ("ld", 1, ("b",)), ("sub", 1, (0, 1))], VALUES)
        self.tells((-2, (6, 6, 2)), run_rows, M, [LOAD, ("ld", 1, ("b",)), ("sub", 1, (0, 1)), ("add", 1, (1, 1))], VALUES)

    def test_values(self):
        lacks = CODE[0][2][0]
        self.refuses(BadValues, "word", lacks, run_rows, M, CODE, {"a": 2, "c": 5})
        self.refuses(BadValues, "word", CODE[3][2][0], run_rows, M, CODE, {})
        self.refuses(BadValues, "word", CODE[1][2][0], run_rows, M, CODE, {"a": 2, "b": 3, "d": 1})
        for worth in NO_INTEGERS:
            self.refuses(BadValues, "word", lacks, run_rows, M, CODE, {"a": 2, "b": worth, "c": None})
        for thing in [None, True, 0, "abc", [], (), [("a", 1)], some_function, EXAMPLE]:
            self.refuses(BadValues, "word", None, run_rows, M, CODE, thing)
            self.refuses(BadValues, "word", None, run_rows, M, [("li", 0, (1,))], thing)
        self.tells((17, (11, 8, 2)), run_rows, M, CODE, {**VALUES, "d": None, 7: "x"})
        # A word is wanted though its result is read by none.
        self.refuses(BadValues, "word", lacks, run_rows, M, [CODE[0], ("li", 0, (1,))], {"a": 1})

    def test_bad_rows_are_ahead(self):
        for thing in NO_LISTS + [[], ()]:
            self.refuses(BadRows, "index", 0, run_rows, M, thing, VALUES)
            self.refuses(BadRows, "index", 0, run_rows, M, thing, None)
        self.refuses(BadRows, "index", 1, run_rows, M, [LOAD, ("add", 0, (0, 1))], {})

    def test_by_chance(self):
        chance = chance_of(182)
        for _ in range(150):
            machine = some_machine(chance, 3)
            rows = some_rows(chance, machine, chance.randint(1, 9))
            tree = tree_of_rows(machine, rows)
            if small_enough(tree):
                values = {word: chance.randint(-9, 9) for word in "abc"}
                told = self.told(run_rows, machine, rows, values)
                self.assertEqual(told, plain_run(machine, rows, values))
                self.assertEqual(told[0], worth_of(tree, values))


if __name__ == "__main__":
    unittest.main()
