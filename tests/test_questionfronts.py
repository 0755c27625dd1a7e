"""Promises 16.5 and 16.7, and 15.5 as far as it tells of fronts: the best trees of questions."""

import unittest

from anyprice.bases import Base
from anyprice.errors import BadAmount, BadBudget, BadPrices
from anyprice.operators import is_operator_tree, tree_amount, tree_order, tree_set
from anyprice.questionfronts import best_tree, question_front, tree_with, with_fewer_sorts
from anyprice.questions import asked_of
from anyprice.refusals import BadQuestion
from anyprice.ties import closed_question
from anyprice.treeruns import run_tree
from helpers import NO_AMOUNTS, NO_LISTS, NO_PRICES, Case, chance_of, is_at_most, product, some_function
from operatorways import (OTHER_COLUMNS, OTHER_NAMES, OTHER_WORDS, has_needless_sorts, is_a_tree_of, plain_question_front, renamed, renamed_tree,
                          some_big_question)
from test_operators import A, INDEXED, some_trees
from test_questions import FOUR, PAIR, PICKED, PLAIN, some_base, some_question


class QuestionFronts(Case):

    def check(self, base, question, amounts):
        """The told front's amounts have trees, which count them when they are run."""
        for amount in amounts:
            tree = self.told(tree_with, base, question, amount)
            self.assertTrue(is_operator_tree(base, question, tree) and is_a_tree_of(base, question, tree))
            self.assertEqual(run_tree(base, question, tree)[1], amount)
            self.assertFalse(has_needless_sorts(base, question, tree))

    def test_the_example(self):
        self.tells([(20, 16, 16), (24, 20, 12)], question_front, PAIR, PLAIN)
        self.tells([(12, 12, 8)], question_front, INDEXED, PLAIN)
        self.check(PAIR, PLAIN, [(20, 16, 16), (24, 20, 12)])
        self.tells(("step", A, 0), tree_with, INDEXED, PLAIN, (12, 12, 8))
        amount, tree = self.told(best_tree, PAIR, PLAIN, (1, 1, 1), (None, None, None))
        self.assertEqual((amount, tree[0], tree[1]), ((20, 16, 16), "boxes", "beside"))
        amount, tree = self.told(best_tree, PAIR, PLAIN, (1, 1, 9), (None, None, None))
        self.assertEqual((amount, tree[0]), ((24, 20, 12), "loops"))

    def test_amounts_that_are_none_of_the_front(self):
        for amount in ((20, 16, 17), (20, 20, 16), (0, 0, 0), [24, 20, 11]):
            self.tells(None, tree_with, PAIR, PLAIN, amount)
        for thing in NO_AMOUNTS + [(1,), (1, 2), (1, 2, 3, 4), (20, 16, True), (20, -16, 16)]:
            if not (isinstance(thing, (list, tuple)) and len(thing) == 3 and thing == [1, 2, 3]):
                self.refuses(BadAmount, "amount", thing, tree_with, PAIR, PLAIN, thing)

    def test_budgets(self):
        for budget, expected in (
            ((None, None, None), (20, 16, 16)), ((None, None, 15), (24, 20, 12)), ((20, 16, 16), (20, 16, 16)), ((19, None, None), None),
            ((None, 15, None), None), ((24, 20, 12), (24, 20, 12)), ((None, 0, None), None), ((23, None, 12), None), ([24, None, None], (20, 16, 16)),
        ):
            told = self.told(best_tree, PAIR, PLAIN, (1, 1, 1), budget)
            self.assertEqual(None if told is None else told[0], expected)

    def test_of_several_the_first_one(self):
        # 20, 16, 16 and 24, 20, 12 cost the same at 1, 1, 2.
        self.assertEqual(best_tree(PAIR, PLAIN, (1, 1, 2), (None,) * 3)[0], (20, 16, 16))
        self.assertEqual(best_tree(PAIR, PLAIN, (1, 1, 3), (None,) * 3)[0], (24, 20, 12))

    def test_by_chance(self):
        chance = chance_of(165)
        several = 0
        for _ in range(70):
            base = some_base(chance, 12, chance.choice([0, .3, .6]))
            question = some_question(chance, base, chance.choice([1, 2, 2, 3]))
            amounts = self.told(question_front, base, question)
            self.assertEqual(amounts, plain_question_front(base, question))
            several += len(amounts) > 1
            self.check(base, question, amounts)
            prices = tuple(chance.randint(1, 9) for _ in range(3))
            row = chance.choice(amounts)
            budget = tuple(chance.choice([None, number, number + 1, max(0, number - 1)]) for number in row)
            within = [amount for amount in amounts if all(limit is None or number <= limit for number, limit in zip(amount, budget))]
            told = self.told(best_tree, base, question, prices, budget)
            if not within:
                self.assertIsNone(told)
            else:
                self.assertEqual(told[0], min(within, key=lambda amount: (product(amount, prices), amount)))
                self.assertEqual(tree_amount(base, question, told[1]), told[0])
                self.assertTrue(is_a_tree_of(base, question, told[1]))
        self.assertGreater(several, 12)

    def test_sorts_that_cost_nothing_are_left_out(self):
        # Where a set has one row, or none, a sort of what is sorted takes nothing.
        chance = chance_of(166)
        for _ in range(60):
            base = some_base(chance, 2, .7)
            question = some_question(chance, base, chance.choice([1, 2, 3]))
            self.check(base, question, question_front(base, question))

    def test_sorts_are_left_out_wherever_they_stand(self):
        chance = chance_of(171)
        turned = 0
        for _ in range(150):
            base = some_base(chance, 4)
            question = some_question(chance, base, chance.choice([1, 2, 2, 3]))
            trees = some_trees(chance, base, question, 14)
            tree = trees[-1]
            for column in [column for join in question[1] for column in join if column[0] in tree_set(base, question, tree)][:2]:
                tree = ("sort", ("sort", tree, column), column)
            lean = with_fewer_sorts(asked_of(base, question), tree)
            self.assertFalse(has_needless_sorts(base, question, lean))
            turned += has_needless_sorts(base, question, tree)
            if not has_needless_sorts(base, question, tree):
                self.assertEqual(lean, tree)
            self.assertEqual(tree_set(base, question, lean), tree_set(base, question, tree))
            self.assertEqual(tree_order(base, question, lean), tree_order(base, question, tree))
            self.assertTrue(is_at_most(tree_amount(base, question, lean), tree_amount(base, question, tree)))
        self.assertTrue(30 < turned < 140)

    def test_a_sort_behind_what_was_in_order(self):
        # A merge is in order, and has no row more with the empty table beside it: so a sort would cost nothing.
        table = (["k"], [(number,) for number in range(30)], ["k"])
        base = Base({"t": table, "e": (["m"], [], [])})
        for words in ("pqr", "rpq", "prq"):
            names = {"p": "t", "q": "t", "r": "e"}
            for by in (("p", "k"), ("q", "k")):
                question = ([(word, names[word]) for word in words], [(("p", "k"), ("q", "k"))], [], [("p", "k")], by)
                amounts = question_front(base, question)
                self.assertEqual(amounts, plain_question_front(base, question))
                self.check(base, question, amounts)

    def test_the_closed_question_is_never_dearer(self):
        self.tells([(9, 5, 3)], question_front, PAIR, closed_question(PAIR, PICKED))
        chance = chance_of(167)
        less = 0
        for _ in range(60):
            base = some_base(chance, 6)
            question = some_question(chance, base, chance.choice([2, 3]))
            amounts, closed = question_front(base, question), question_front(base, closed_question(base, question))
            for amount in amounts:
                self.assertTrue(any(is_at_most(other, amount) for other in closed))
            less += amounts != closed
        self.assertGreater(less, 15)

    def test_tables_without_rows(self):
        base = Base({"a": (["k"], [], ["k"]), "b": FOUR})
        self.tells([(4, 4, 4)], question_front, base, PLAIN)
        self.check(base, PLAIN, [(4, 4, 4)])

    def test_names_are_only_names(self):
        chance = chance_of(168)
        for _ in range(30):
            base = some_base(chance, 5)
            question = some_question(chance, base, chance.randint(1, 3))
            further, other = renamed(base, question, OTHER_WORDS, OTHER_NAMES, OTHER_COLUMNS)
            amounts = question_front(base, question)
            self.assertEqual(question_front(further, other), amounts)
            for amount in amounts:
                tree = tree_with(base, question, amount)
                self.assertEqual(tree_with(further, other, amount), renamed_tree(tree, OTHER_WORDS, OTHER_COLUMNS))

    def test_three_and_four_sources(self):
        chance = chance_of(169)
        for many, joins in ((3, 2), (3, 6), (4, 3), (4, 6), (4, 4)):
            base, question = some_big_question(chance, many, joins)
            amounts = question_front(base, question)
            for amount in amounts[:3]:
                tree = tree_with(base, question, amount)
                self.assertTrue(is_a_tree_of(base, question, tree))
                self.assertEqual(run_tree(base, question, tree)[1], amount)
            self.assertEqual(best_tree(base, question, (1, 1, 1), (None, None, None))[0], min(amounts, key=lambda row: (sum(row), row)))

    def test_four_sources_beside_the_plain_way(self):
        chance = chance_of(170)
        for _ in range(3):
            base = some_base(chance, 3)
            question = some_question(chance, base, 4)
            self.assertEqual(question_front(base, question), plain_question_front(base, question))

    def test_errors_in_their_order(self):
        for thing in NO_LISTS + [[], (), PLAIN[:4]]:
            self.refuses(BadQuestion, "question", thing, question_front, PAIR, thing)
            self.refuses(BadQuestion, "question", thing, tree_with, PAIR, thing, None)
            self.refuses(BadQuestion, "question", thing, best_tree, PAIR, thing, None, None)
        for prices in NO_PRICES + [(1, 1), (0, 1, 1), (1, 1, 0), (1, True, 1), (1, 1, 1, 1), some_function]:
            self.refuses(BadPrices, "prices", prices, best_tree, PAIR, PLAIN, prices, (None, None, None))
            self.refuses(BadPrices, "prices", prices, best_tree, PAIR, PLAIN, prices, None)
        for budget in NO_LISTS + [[], (None, None), (1, 1), (None,) * 4, (1, 1, -1), (1, True, 1), (1, "1", 1), (None, None, [1])]:
            self.refuses(BadBudget, "budget", budget, best_tree, PAIR, PLAIN, (1, 1, 1), budget)


if __name__ == "__main__":
    unittest.main()
