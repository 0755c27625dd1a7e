"""Promise 19.4: the best wholes."""

import unittest

from anyprice.bases import Base
from anyprice.errors import BadAmount, BadNumber, BadPrices
from anyprice.fronts import front
from anyprice.machines import Machine
from anyprice.maps import map_of
from anyprice.refusals import BadMachine, BadTested, Uncoded
from anyprice.tested import tested_rows
from anyprice.wholeplans import best_whole, whole_front, whole_program, whole_with
from anyprice.wholeruns import run_whole
from anyprice.wholes import is_whole, whole_amount
from helpers import NO_AMOUNTS, NO_LISTS, NO_NUMBERS, NO_PRICES, Case, chance_of, is_at_most, product, some_function
from machinery import M, num, sized, var
from operatorways import OTHER_COLUMNS, OTHER_NAMES, OTHER_WORDS, renamed, some_big_question
from test_questions import AK, FOUR, PAIR, PLAIN, some_base
from test_tested import NO_TESTED, TESTED, UNDER
from wholeways import QUICK, SMALL, plain_whole_front, some_tested, some_whole

CALLS = (whole_front, whole_program)


class BestWholes(Case):

    def check(self, base, tested, machine, registers, amount):
        whole = self.told(whole_with, base, tested, machine, registers, amount)
        self.assertTrue(is_whole(base, tested, machine, registers, whole))
        self.assertEqual(whole_amount(base, tested, machine, registers, whole), amount)
        rows, counted = run_whole(base, tested, machine, registers, whole)
        self.assertEqual(counted, amount)
        words = [word for word, _ in tested[0][0]]
        self.assertEqual(sorted(rows), sorted(tested_rows(base, tested, words, list(range(len(tested[1]))))))

    def test_an_example(self):
        amounts = self.told(whole_front, PAIR, TESTED, M, 2)
        self.assertEqual(amounts, sorted(plain_whole_front(PAIR, TESTED, M, 2)))
        for amount in amounts:
            self.check(PAIR, TESTED, M, 2, amount)
        program, thing = self.told(whole_program, PAIR, TESTED, M, 2)
        self.assertEqual(program.own_sorts(), ["flat", "flat", "high"])
        self.assertEqual(front(program, thing), amounts)

    def test_without_tests(self):
        amounts = whole_front(PAIR, (PLAIN, []), M, 1)
        self.assertEqual(amounts, [(20, 0, 16), (24, 0, 12)])
        for amount in amounts:
            self.check(PAIR, (PLAIN, []), M, 1, amount)
        self.tells([(20, 0, 16), (24, 0, 12)], whole_front, PAIR, (PLAIN, []), Machine([]), 1)

    def test_early_and_late(self):
        # A dear test that all rows meet is done late, where few rows are left; a cheap one that few meet early.
        base = Base({"a": (["k"], [(number,) for number in range(9)], []), "b": (["k"], [(1,), (2,)], [])})
        question = ([("a", "a"), ("b", "b")], [(AK, ("b", "k"))], [], [AK], None)
        dear = ("mul", var("k"), ("mul", var("k"), var("k")))
        tested = (question, [("a", dear)])
        whole = best_whole(base, tested, M, 2, (1, 1, 1))
        self.assertEqual(whole[0][0], "tested")
        cheap = (question, [("b", ("sub", num(1), var("k")))])
        amounts = whole_front(base, cheap, M, 2)
        self.assertEqual(amounts, sorted(plain_whole_front(base, cheap, M, 2)))

    def test_by_chance_beside_the_plain_way(self):
        chance = chance_of(193)
        several = uncoded = 0
        for _ in range(55):
            base = some_base(chance, chance.choice([6, 12]), chance.choice([0, .4]))
            tested = some_tested(chance, base, chance.choice([1, 2, 2, 3]), chance.randint(0, 2), 5)
            machine, registers = chance.choice([SMALL, QUICK]), chance.randint(1, 3)
            expected = plain_whole_front(base, tested, machine, registers)
            if expected is None:
                uncoded += 1
                with self.assertRaises(Uncoded):
                    whole_front(base, tested, machine, registers)
                continue
            amounts = self.told(whole_front, base, tested, machine, registers)
            self.assertEqual(amounts, sorted(expected))
            several += len(amounts) > 1
            program, thing = whole_program(base, tested, machine, registers)
            self.assertEqual(front(program, thing), amounts)
            for amount in amounts:
                self.check(base, tested, machine, registers, amount)
            prices = tuple(chance.randint(1, 9) for _ in range(3))
            whole = self.told(best_whole, base, tested, machine, registers, prices)
            cost = product(whole_amount(base, tested, machine, registers, whole), prices)
            self.assertEqual(cost, min(product(amount, prices) for amount in amounts))
            other = some_whole(chance, base, tested, machine, registers)
            counted = whole_amount(base, tested, machine, registers, other)
            self.assertTrue(any(is_at_most(amount, counted) for amount in amounts))
            # With more registers nothing is dearer.
            more = whole_front(base, tested, machine, registers + 1)
            for amount in amounts:
                self.assertTrue(any(is_at_most(row, amount) for row in more))
        self.assertGreater(several, 6)
        self.assertGreater(uncoded, 1)

    def test_uncoded(self):
        for machine, registers, number in ((M.without("li"), 3, 0), (M.without("sub"), 3, 0), (M, 1, 0), (Machine([]), 1, 0)):
            for call in CALLS:
                self.refuses(Uncoded, "number", number, call, PAIR, TESTED, machine, registers)
            # Ahead of amounts and prices.
            self.refuses(Uncoded, "number", number, whole_with, PAIR, TESTED, machine, registers, None)
            self.refuses(Uncoded, "number", number, best_whole, PAIR, TESTED, machine, registers, None)
        tests = [("a", var("k")), ("b", ("mul", var("k"), num(1))), ("a", UNDER)]
        self.refuses(Uncoded, "number", 2, whole_front, PAIR, (PLAIN, tests), M.without("sub"), 2)
        self.refuses(Uncoded, "number", 1, whole_front, PAIR, (PLAIN, tests), M.without("sub").without("li"), 2)
        self.refuses(Uncoded, "number", 1, whole_front, PAIR, (PLAIN, tests), M, 1)
        # Whether rows come to it or not.
        empty = Base({"a": (["k"], [], []), "b": FOUR})
        self.refuses(Uncoded, "number", 2, whole_front, empty, (PLAIN, tests), M.without("sub"), 2)

    def test_one_register(self):
        tested = (PLAIN, [("a", var("k")), ("b", num(3))])
        for amount in whole_front(PAIR, tested, M, 1):
            self.check(PAIR, tested, M, 1, amount)

    def test_errors_in_their_order(self):
        for thing in NO_TESTED:
            for call in CALLS:
                self.refuses(BadTested, "tested", thing, call, PAIR, thing, None, 0)
            for call in (whole_with, best_whole):
                self.refuses(BadTested, "tested", thing, call, PAIR, thing, None, 0, None)
        for machine in NO_LISTS + [[], M.instructions()]:
            for call in CALLS:
                self.refuses(BadMachine, "machine", machine, call, PAIR, TESTED, machine, 0)
            for call in (whole_with, best_whole):
                self.refuses(BadMachine, "machine", machine, call, PAIR, TESTED, machine, 0, None)
        for registers in NO_NUMBERS + [0]:
            for call in CALLS:
                self.refuses(BadNumber, "number", registers, call, PAIR, TESTED, Machine([]), registers)
            for call in (whole_with, best_whole):
                self.refuses(BadNumber, "number", registers, call, PAIR, TESTED, Machine([]), registers, None)
        first = whole_front(PAIR, TESTED, M, 2)[0]
        for amount in NO_AMOUNTS + [first[:2], first + (1,), (first[0] + 1,) + first[1:], (0, 0, 0), (str(first[0]),) + first[1:]]:
            self.refuses(BadAmount, "amount", amount, whole_with, PAIR, TESTED, M, 2, amount)
        for prices in NO_PRICES + [(1, 1), (0, 1, 1), (1, 1, 0), (1, True, 1), (1, 1, 1, 1), some_function]:
            self.refuses(BadPrices, "prices", prices, best_whole, PAIR, TESTED, M, 2, prices)

    def test_names_are_only_names(self):
        chance = chance_of(194)
        for _ in range(20):
            base = some_base(chance, 5)
            question, tests = some_tested(chance, base, 2, 2, 3)
            further, other = renamed(base, question, OTHER_WORDS, OTHER_NAMES, OTHER_COLUMNS)

            def turned(tree):
                if len(tree) == 2:
                    return var(OTHER_COLUMNS[tree[1]]) if tree[0] == "var" else tree
                return (tree[0], turned(tree[1]), turned(tree[2]))

            others = [(OTHER_WORDS[word], turned(tree)) for word, tree in tests]
            machine = Machine([("q" + "abcdefgh"[at],) + row[1:] for at, row in enumerate(M.instructions())])
            one = whole_program(base, (question, tests), M, 3)
            two = whole_program(further, (other, others), machine, 3)
            self.assertTrue(one[0] == two[0])
            self.assertEqual(one[1], two[1])

    def test_the_map_of_its_program(self):
        program, thing = whole_program(PAIR, TESTED, M, 2)
        for amount, corners in map_of(program, thing).items():
            prices = tuple(map(sum, zip(*corners)))
            whole = best_whole(PAIR, TESTED, M, 2, prices)
            self.assertEqual(whole_amount(PAIR, TESTED, M, 2, whole), amount)

    def test_the_sizes(self):
        chance = chance_of(195)
        for _ in range(3):
            base, question = some_big_question(chance, 3, 2)
            question = question[:4] + (None,)
            tests = [(chance.choice("pqr"), sized(chance, 9, lambda: chance.choice([var(chance.choice("abcde")), num(chance.randint(0, 9))]))) for _ in range(3)]
            plain = Machine([row for row in M.instructions() if row[0] not in ("addm", "mac")])
            amounts = whole_front(base, (question, tests), plain, 3)
            whole = whole_with(base, (question, tests), plain, 3, amounts[0])
            self.assertEqual(run_whole(base, (question, tests), plain, 3, whole)[1], amounts[0])


if __name__ == "__main__":
    unittest.main()
