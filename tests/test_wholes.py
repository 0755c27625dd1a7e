"""Promises 19.2 and 19.3: wholes, what they take, and their runs."""

import unittest

from anyprice.bases import Base
from anyprice.coding import code_for
from anyprice.errors import BadNumber
from anyprice.fronts import front
from anyprice.machines import Machine
from anyprice.refusals import BadMachine, BadTested, BadWhole
from anyprice.tested import tested_answer, tested_rows
from anyprice.treeplans import tree_program
from anyprice.wholeruns import run_whole
from anyprice.wholes import is_whole, whole_amount
from helpers import NO_LISTS, NO_NUMBERS, Case, chance_of, swapped
from machinery import M, num, var
from test_operators import A, B, SORTED_A
from test_questions import AK, BK, FOUR, PAIR, PLAIN, some_base
from test_tested import NO_TESTED, OVER, TESTED, UNDER
from wholeways import QUICK, SMALL, counted_by, look, some_tested, some_whole, tests_in, weigh

OVER_CODE = [("ld", 0, ("k",)), ("li", 1, (2,)), ("sub", 0, (0, 1))]
UNDER_CODE = [("li", 0, (4,)), ("ld", 1, ("k",)), ("sub", 0, (0, 1))]
CODES = {0: OVER_CODE, 1: UNDER_CODE, 2: UNDER_CODE}
TREE = ("boxes", "left", ("tested", ("tested", A, 0), 2), ("tested", B, 1))


class Wholes(Case):

    def test_wholes(self):
        for tree in (
            TREE, ("tested", ("tested", ("tested", ("loops", "left", A, B), 1), 0), 2), ("tested", ("boxes", "right", ("tested", ("tested", A, 2), 0), B), 1),
            ("sort", ("tested", ("sort", ("loops", "right", ("tested", A, 2), ("tested", B, 1)), AK), 0), BK),
            ("merge", "left", ("tested", ("tested", SORTED_A, 0), 2), ("sort", ("tested", B, 1), BK), 0),
        ):
            self.tells(True, is_whole, PAIR, TESTED, M, 2, (tree, CODES))
            self.tells(True, is_whole, PAIR, TESTED, M, 9, [swapped(tree), swapped(CODES)])
            self.tells(False, is_whole, PAIR, TESTED, M, 1, (tree, CODES))
            self.tells(False, is_whole, PAIR, TESTED, M.without("li"), 2, (tree, CODES))

    def test_trees_that_are_none(self):
        for tree in (
            ("boxes", "beside", ("tested", ("tested", A, 0), 2), ("tested", B, 1)), ("boxes", "left", ("tested", A, 0), ("tested", B, 1)),
            ("boxes", "left", ("tested", ("tested", ("tested", A, 0), 2), 0), ("tested", B, 1)), ("boxes", "left", ("tested", ("tested", A, 0), 1), ("tested", B, 2)),
            ("tested", TREE, 0), ("tested", TREE, 3), ("tested", TREE, -1), ("tested", A, 0), ("tested", ("tested", A, 0), 2), A, None, (), ("tested",),
            ("boxes", "left", ("tested", ("tested", A, False), 2), ("tested", B, True)), ("boxes", "left", ("tested", ("tested", A, 0), 2), ("tested", B, "1")),
        ):
            self.tells(False, is_whole, PAIR, TESTED, M, 2, (tree, CODES))
            whole = (tree, CODES)
            self.refuses(BadWhole, "whole", whole, whole_amount, PAIR, TESTED, M, 2, whole)

    def test_codes_that_are_none(self):
        for codes in NO_LISTS + [
            [], (), {0: OVER_CODE, 1: UNDER_CODE}, {**CODES, 3: OVER_CODE}, {**CODES, "0": OVER_CODE}, {0: OVER_CODE, True: UNDER_CODE, 2: UNDER_CODE},
            {False: OVER_CODE, 1: UNDER_CODE, 2: UNDER_CODE}, {0: UNDER_CODE, 1: UNDER_CODE, 2: UNDER_CODE}, {0: OVER_CODE, 1: UNDER_CODE, 3: UNDER_CODE}, {0: OVER_CODE, 1: UNDER_CODE, -1: UNDER_CODE}, {**CODES, 2: None}, {**CODES, 2: []}, {**CODES, 1: {}},
            {**CODES, 0: OVER_CODE[:-1]}, {**CODES, 0: [("ld", 0, ("k",)), ("li", 1, (2,)), ("sub", 0, (1, 0))]}, {**CODES, None: OVER_CODE},
            {**CODES, 0: [("ld", 0, ("k",)), ("li", 5, (2,)), ("sub", 7, (0, 5))]}, [OVER_CODE, UNDER_CODE, UNDER_CODE], {0: OVER_CODE, 1: UNDER_CODE, 2.0: UNDER_CODE},
        ]:
            self.tells(False, is_whole, PAIR, TESTED, M, 2, (TREE, codes))
            whole = [TREE, codes]
            self.refuses(BadWhole, "whole", whole, run_whole, PAIR, TESTED, M, 2, whole)
        # Trees that lack a test, or have one twice, with just the codes of those that they have.
        lacking = ("boxes", "left", ("tested", A, 0), ("tested", B, 1))
        twice = ("boxes", "left", ("tested", ("tested", A, 0), 0), ("tested", B, 1))
        for tree in (lacking, twice):
            self.tells(False, is_whole, PAIR, TESTED, M, 2, (tree, {0: OVER_CODE, 1: UNDER_CODE}))
        # Three registers are one too many for two, not for three.
        wide = {**CODES, 0: [("ld", 0, ("k",)), ("li", 5, (2,)), ("sub", 7, (0, 5))]}
        self.tells(True, is_whole, PAIR, TESTED, M, 3, (TREE, wide))
        for thing in NO_LISTS + [[], (TREE,), (TREE, CODES, 1), TREE]:
            self.tells(False, is_whole, PAIR, TESTED, M, 2, thing)
            self.refuses(BadWhole, "whole", thing, whole_amount, PAIR, TESTED, M, 2, thing)
            self.refuses(BadWhole, "whole", thing, run_whole, PAIR, TESTED, M, 2, thing)

    def test_without_tests(self):
        tested = (PLAIN, [])
        self.tells(True, is_whole, PAIR, tested, M, 1, (("boxes", "left", A, B), {}))
        self.tells((20, 0, 16), whole_amount, PAIR, tested, M, 1, (("boxes", "left", A, B), {}))
        self.tells(False, is_whole, PAIR, tested, M, 1, (("boxes", "left", A, B), {0: OVER_CODE}))
        self.tells(False, is_whole, PAIR, tested, M, 1, (("boxes", "beside", A, B), {}))
        self.tells(False, is_whole, PAIR, tested, M, 1, (A, {}))
        by = (PLAIN[:4] + (AK,), [])
        self.tells(False, is_whole, PAIR, by, M, 1, (("boxes", "left", SORTED_A, B), {}))
        self.tells(True, is_whole, PAIR, by, M, 1, (("boxes", "left", B, SORTED_A), {}))

    def test_tests_that_no_rows_come_to(self):
        # No row meets the first test of a, so that none comes to the second one.
        tested = (PLAIN, [("a", num(0)), ("a", OVER), ("b", UNDER)])
        tree = ("boxes", "left", ("tested", ("tested", A, 0), 1), ("tested", B, 2))
        codes = {0: [("li", 0, (0,))], 2: UNDER_CODE}
        self.tells(True, is_whole, PAIR, tested, M, 2, (tree, codes))
        self.tells(False, is_whole, PAIR, tested, M, 2, (tree, {**codes, 1: OVER_CODE}))
        self.tells(False, is_whole, PAIR, tested, M, 2, (tree, {2: UNDER_CODE}))
        self.tells(False, is_whole, PAIR, tested, M, 2, (tree, {1: OVER_CODE, 2: UNDER_CODE}))
        # 4 + 4 * (1 + 1); 0; 4 + 4 * (1 + 4), and 0 + 3 + 0.
        self.tells((4 + 8 + 0 + 24 + 3, 2 + 5, 7), whole_amount, PAIR, tested, M, 2, (tree, codes))
        self.tells(([], (39, 7, 7)), run_whole, PAIR, tested, M, 2, (tree, codes))
        other = ("tested", ("boxes", "left", ("tested", ("tested", A, 1), 0), B), 2)
        self.tells(True, is_whole, PAIR, tested, M, 2, (other, {0: [("li", 0, (0,))], 1: OVER_CODE}))
        empty = Base({"a": (["k"], [], []), "b": FOUR})
        self.tells(True, is_whole, empty, tested, M, 2, (tree, {2: UNDER_CODE}))
        self.tells(True, is_whole, empty, tested, M, 2, (("tested", ("tested", ("tested", ("loops", "left", A, B), 2), 1), 0), {}))

    def test_amounts(self):
        # a: 4, then 4 rows at 1 + 4, two left, at 1 + 4, one left; b: 4, four at 1 + 4; boxes 1 + 3 + 1.
        self.tells((4 + 20 + 10 + 4 + 20 + 5, 15, 8), whole_amount, PAIR, TESTED, M, 2, (TREE, CODES))
        self.tells(([((3,), (3,))], (63, 15, 8)), run_whole, PAIR, TESTED, M, 2, (TREE, CODES))
        late = ("tested", ("tested", ("tested", ("boxes", "left", A, B), 0), 1), 2)
        self.tells((8 + 12 + 20 + 10 + 5, 15, 16), whole_amount, PAIR, TESTED, M, 2, (late, CODES))
        self.tells(([((3,), (3,))], (55, 15, 16)), run_whole, PAIR, TESTED, M, 2, (late, CODES))

    def check(self, base, tested, machine, registers, whole):
        self.tells(True, is_whole, base, tested, machine, registers, whole)
        values = {word: 1 for word in "kmn"}
        amount = weigh(base, tested, whole[0], counted_by(machine, whole, values))
        self.tells(amount, whole_amount, base, tested, machine, registers, whole)
        rows, counted = self.told(run_whole, base, tested, machine, registers, whole)
        self.assertEqual(counted, amount)
        words = [word for word, _ in tested[0][0]]
        self.assertEqual(sorted(rows), sorted(tested_rows(base, tested, words, list(range(len(tested[1]))))))
        by = tested[0][4]
        order = look(base, tested, whole[0])[1]
        for column in [by] if by else [order] if order else []:
            place = words.index(column[0]), base.all_tables()[dict(tested[0][0])[column[0]]][0].index(column[1])
            numbers = [row[place[0]][place[1]] for row in rows]
            self.assertEqual(numbers, sorted(numbers))
        return rows

    def test_by_chance(self):
        chance = chance_of(192)
        seen = {"none": 0, "some": 0, "late": 0}
        for _ in range(150):
            base = some_base(chance, 6)
            tested = some_tested(chance, base, chance.randint(1, 3), chance.randint(0, 3))
            machine, registers = chance.choice([SMALL, QUICK]), chance.randint(1, 3)
            whole = some_whole(chance, base, tested, machine, registers)
            if whole:
                rows = self.check(base, tested, machine, registers, whole)
                seen["some" if rows else "none"] += 1
                coming = tests_in(base, tested, whole[0])
                seen["late"] += any(coming[number] == 0 for number in coming)
                names, columns = dict(tested[0][0]), base.all_tables()
                words = [word for word, _ in tested[0][0]]
                answer = sorted(tuple(row[words.index(word)][columns[names[word]][0].index(column)] for word, column in tested[0][3]) for row in rows)
                self.assertEqual(answer, tested_answer(base, tested))
                self.spoil_one(chance, base, tested, machine, registers, whole)
        self.assertGreater(min(seen.values()), 15)

    def spoil_one(self, chance, base, tested, machine, registers, whole):
        tree, codes = whole
        number = chance.randrange(len(tested[1]) + 1)
        spoilt = dict(codes)
        if number in spoilt:
            del spoilt[number]
        else:
            spoilt[number] = [("li", 0, (1,))]
        self.tells(False, is_whole, base, tested, machine, registers, (tree, spoilt))
        for number in range(len(tested[1])):
            self.tells(False, is_whole, base, tested, machine, registers, (("tested", tree, number), codes))

    def test_registers(self):
        amounts = front(tree_program(M, UNDER), "r0.")
        self.assertEqual(amounts, [(4, 5, 2)])
        self.assertEqual(code_for(M, UNDER, (4, 5, 2)), UNDER_CODE)
        tested = (PLAIN, [("a", var("k"))])
        tree = ("boxes", "left", ("tested", A, 0), B)
        self.tells(True, is_whole, PAIR, tested, M, 1, (tree, {0: [("ld", 900, ("k",))]}))
        self.tells((4 + 12 + 4 + 12, 2, 16), whole_amount, PAIR, tested, M, 1, (tree, {0: [("ld", 900, ("k",))]}))

    def test_errors_in_their_order(self):
        whole = (TREE, CODES)
        for call in (is_whole, whole_amount, run_whole):
            for thing in NO_TESTED:
                self.refuses(BadTested, "tested", thing, call, PAIR, thing, M, 2, whole)
                self.refuses(BadTested, "tested", thing, call, PAIR, thing, None, 0, None)
            for machine in NO_LISTS + [[], M.instructions(), Machine]:
                self.refuses(BadMachine, "machine", machine, call, PAIR, TESTED, machine, 2, whole)
                self.refuses(BadMachine, "machine", machine, call, PAIR, TESTED, machine, 0, None)
            for registers in NO_NUMBERS + [0]:
                self.refuses(BadNumber, "number", registers, call, PAIR, TESTED, M, registers, whole)
                self.refuses(BadNumber, "number", registers, call, PAIR, TESTED, M, registers, None)


if __name__ == "__main__":
    unittest.main()
