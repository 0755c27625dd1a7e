"""Promises 16.4 and 16.7 as far as it tells of plans: questions as programs."""

import unittest

from anyprice.errors import BadPlan
from anyprice.fronts import front
from anyprice.operators import is_operator_tree, tree_amount
from anyprice.plans import is_plan, is_straight, plan_amount, plan_thing, straightened
from anyprice.programs import Program
from anyprice.questionplans import plan_of_tree, question_program, tree_of_plan
from anyprice.questionfronts import question_front
from anyprice.refusals import BadQuestion, BadTree
from anyprice.tops import plan_of
from helpers import NO_LISTS, Case, chance_of, some_plan
from operatorways import (OTHER_COLUMNS, OTHER_NAMES, OTHER_WORDS, is_a_tree_of, plain_question_front, renamed, renamed_tree, some_big_question)
from test_operators import A, B, INDEXED, KINDS, SORTED_A, SORTED_B, some_trees
from test_questions import AK, BK, PAIR, PICKED, PLAIN, some_base, some_question


class QuestionPlans(Case):

    def check(self, base, question, tree):
        program, thing = question_program(base, question)
        plan = self.told(plan_of_tree, base, question, tree)
        self.assertTrue(is_plan(program, plan))
        self.assertEqual(plan_thing(program, plan), thing)
        self.assertEqual(plan_amount(program, plan), tree_amount(base, question, tree))
        self.tells(tree, tree_of_plan, base, question, plan)

    def test_the_example(self):
        program, thing = self.told(question_program, PAIR, PLAIN)
        self.assertIsInstance(program, Program)
        self.assertEqual(program.own_sorts(), ["flat", "high", "high"])
        self.assertEqual(front(program, thing), [(20, 16, 16), (24, 20, 12)])
        program, thing = question_program(INDEXED, PLAIN)
        self.assertEqual(front(program, thing), [(12, 12, 8)])
        for tree in (("boxes", "beside", A, B), ("boxes", "left", B, A), ("loops", "right", A, B), ("merge", "beside", SORTED_A, SORTED_B, 0),
                     ("merge", "left", SORTED_B, SORTED_A, 0), ("sort", ("loops", "beside", SORTED_B, A), BK),
                     ("sort", ("sort", ("boxes", "right", ("sort", SORTED_A, AK), B), AK), BK)):
            self.check(PAIR, PLAIN, tree)
        self.check(INDEXED, PLAIN, ("step", SORTED_A, 0))
        self.check(INDEXED, PLAIN, ("merge", "right", SORTED_A, ("along", "b", "k"), 0))

    def test_how_rules_say_it(self):
        program, _ = question_program(INDEXED, PICKED)
        for head, parts, own, how in program.all_rules():
            self.assertEqual(how[0], "times")
            self.assertTrue(all(times == 1 for _, times, _ in parts))
            self.assertIn(how[1:], [("times", "most"), ("most", "sum")])

    def test_sources_alone(self):
        question = ([("a", "b")], [], [(AK, 2), (AK, 3)], [AK], None)
        for by in (None, AK):
            asked = question[:4] + (by,)
            for tree in (("all", "a"), ("by", 0), ("by", 1), ("along", "a", "k")):
                if by is None or tree[0] == "along":
                    self.check(INDEXED, asked, tree)
                else:
                    self.refuses(BadTree, "tree", tree, plan_of_tree, INDEXED, asked, tree)
                    self.check(INDEXED, asked, ("sort", tree, AK))

    def test_by_chance(self):
        chance = chance_of(164)
        seen = dict.fromkeys(KINDS, 0)
        for _ in range(250):
            base = some_base(chance, 5)
            question = some_question(chance, base, chance.choice([1, 2, 2, 3]))
            for tree in some_trees(chance, base, question, 18)[-12:]:
                if is_a_tree_of(base, question, tree):
                    seen[tree[0]] += 1
                    self.check(base, question, tree)
                else:
                    self.refuses(BadTree, "tree", tree, plan_of_tree, base, question, tree)
        self.assertGreater(min(seen[kind] for kind in KINDS if kind not in ("by", "all")), 5)

    def test_any_plan_tells_a_tree_with_its_amount(self):
        chance = chance_of(165)
        told = 0
        for _ in range(150):
            base = some_base(chance, 5)
            question = some_question(chance, base, chance.choice([1, 2, 2, 3]))
            program, thing = question_program(base, question)
            for amount in front(program, thing):
                plans = [plan_of(program, thing, amount)]
                plan = some_plan(chance, program, 25)
                if plan and plan_thing(program, plan) == thing:
                    plans.append(plan)
                for plan in plans:
                    told += 1
                    tree = self.told(tree_of_plan, base, question, plan)
                    self.assertTrue(is_operator_tree(base, question, tree) and is_a_tree_of(base, question, tree))
                    self.assertEqual(tree_amount(base, question, tree), plan_amount(program, plan))
                if plan and plan_thing(program, plan) != thing:
                    self.refuses(BadPlan, "plan", plan, tree_of_plan, base, question, plan)
        self.assertGreater(told, 150)

    def test_fronts_by_chance(self):
        chance = chance_of(166)
        several = 0
        for _ in range(50):
            base = some_base(chance, 12, chance.choice([0, .5]))
            question = some_question(chance, base, chance.choice([1, 2, 2, 3]))
            program, thing = question_program(base, question)
            expected = plain_question_front(base, question)
            several += len(expected) > 1
            self.assertEqual(front(program, thing), expected)
        self.assertGreater(several, 8)

    def test_straight_plans(self):
        tree = ("sort", ("sort", ("boxes", "left", ("sort", SORTED_A, AK), B), BK), AK)
        question = PLAIN[:4] + (AK,)
        program, _ = question_program(PAIR, question)
        plan = plan_of_tree(PAIR, question, tree)
        self.assertFalse(is_straight(program, plan))
        lean = tree_of_plan(PAIR, question, straightened(program, plan))
        self.assertTrue(is_a_tree_of(PAIR, question, lean))

    def test_names_are_only_names(self):
        chance = chance_of(167)
        for _ in range(30):
            base = some_base(chance, 4)
            question = some_question(chance, base, chance.randint(1, 3))
            further, other = renamed(base, question, OTHER_WORDS, OTHER_NAMES, OTHER_COLUMNS)
            one, two = question_program(base, question), question_program(further, other)
            self.assertTrue(one[0] == two[0])
            self.assertEqual(one[1], two[1])
            for tree in some_trees(chance, base, question, 12):
                if is_a_tree_of(base, question, tree):
                    turned = renamed_tree(tree, OTHER_WORDS, OTHER_COLUMNS)
                    plan = plan_of_tree(base, question, tree)
                    self.assertEqual(plan_of_tree(further, other, turned), plan)
                    self.assertEqual(tree_of_plan(further, other, plan), turned)

    def test_three_sources_at_their_sizes(self):
        chance = chance_of(168)
        for _ in range(3):
            base, question = some_big_question(chance, 3, 6)
            program, thing = question_program(base, question)
            self.assertLessEqual(len(program.things()), 120)
            self.assertEqual(front(program, thing), question_front(base, question))

    def test_bad_plans(self):
        plan = plan_of_tree(PAIR, PLAIN, ("boxes", "left", A, B))
        below = plan_of_tree(PAIR, (PLAIN[0][:1], [], [], [AK], None), A)
        for thing in NO_LISTS + [[], (), plan[:-1], plan + plan[-1:], plan[1:], [plan], below + plan, [(True, ())], [(0, 0)], [(0,)], [(10 ** 9, ())],
                                 plan[:-1] + [(plan[-1][0], ())], plan[:-1] + [(plan[-1][0], (True,))]]:
            self.refuses(BadPlan, "plan", thing, tree_of_plan, PAIR, PLAIN, thing)

    def test_bad_trees_and_questions(self):
        for thing in NO_LISTS + [[], A, B, SORTED_A, ("all", "c"), ("tested", A, 0), ("boxes", "left", A, A)]:
            self.refuses(BadTree, "tree", thing, plan_of_tree, PAIR, PLAIN, thing)
        question = PLAIN[:4] + (AK,)
        for tree in (("boxes", "left", SORTED_A, B), ("loops", "left", A, SORTED_B)):
            self.refuses(BadTree, "tree", tree, plan_of_tree, PAIR, question, tree)
        for thing in NO_LISTS + [[], (), PLAIN[:4]]:
            self.refuses(BadQuestion, "question", thing, question_program, PAIR, thing)
            self.refuses(BadQuestion, "question", thing, plan_of_tree, PAIR, thing, None)
            self.refuses(BadQuestion, "question", thing, tree_of_plan, PAIR, thing, None)


if __name__ == "__main__":
    unittest.main()
