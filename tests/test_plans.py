"""Promises 4.3 and 4.4: plans, what they cost, straight ones, grafts."""

import unittest

from anyprice.errors import BadNumber, BadPlan, UnlikeThings
from anyprice.fronts import front
from anyprice.plans import (done_of, grafted, is_plan, is_straight, plan_amount, plan_thing, stood_of, straightened)
from anyprice.programs import Program, made_of
from helpers import (EXAMPLE, NO_LISTS, NO_NUMBERS, Case, chance_of, is_at_most, some_plan, some_program,
                     tree_amount, tree_counts, tree_is_straight, tree_of, tree_size, tree_with)

# c of a (2, 4) and b of a (5, 1): the plan that example 5.7 tells of.
PLAN = [(0, ()), (2, (0,)), (1, ()), (3, (2, 1))]
# a of c, of a and b of the same a.
RING = [(0, ()), (2, (0,)), (3, (0, 1)), (4, (2,))]
NO_PLANS = NO_LISTS + [
    [], (), [None], [()], [(0,)], [(0, (), 1)], [(0, None)], [(0, "")], [(0, {})], [0, ()], ["0", ()], [(True, ())],
    [(False, ())], [("0", ())], [(None, ())], [(-1, ())], [(5, ())], [(10 ** 30, ())],
    [(0, (0,))], [(2, ())], [(2, (0,))], [(2, (0,)), (0, ())], [(0, ()), (2, (1,))], [(0, ()), (2, (-1,))],
    [(0, ()), (2, (0, 0))], [(0, ()), (2, (None,))], [(0, ()), (2, (False,))], [(0, ()), (1, ()), (2, (True,))],
    [(0, ()), (2, ("0",))], [(0, ()), (2, ((0,),))], [(0, ()), (2, (0,)), (2, (1,))],
    [(0, ()), (1, ())], [(0, ()), (1, ()), (2, (1,))], [(0, ()), (2, (0,)), (1, ())],
    [(0, ()), (2, (0,)), (3, (1, 0))], [(0, ()), (2, (0,)), (3, (0, 0))], [(0, ()), (2, (0,)), (3, (0,))],
    [(0, ()), (2, (0,)), (3, (0, 1)), (0, ())], PLAN + [(1, ())], PLAN[:-1], PLAN + [None], [EXAMPLE], [EXAMPLE, ()],
]


def doubling(rows):
    """A program, and a plan in which each row is twice below the next."""
    program = Program(["flat", "flat", "high"], [
        ("x", [], (1, 1, 1), ("times", "sum", "most")),
        ("x", [("x", 1, (0, 0, 0)), ("x", 2, (0, 0, 1))], (1, 1, 0), ("times", "sum", "most")),
    ])
    return program, [(0, ())] + [(1, (row, row)) for row in range(rows - 1)]


def chain(many):
    """A program, and a plan, in which each thing is had of the one ahead, twice."""
    how = ("times", "sum")
    rules = [("t0", [], (1, 1), how)]
    rules += [(f"t{at}", [(f"t{at - 1}", 1, (0, 0)), (f"t{at - 1}", 2, (0, 0))], (0, 1), how) for at in range(1, many)]
    return Program(["flat", "flat"], rules), [(0, ())] + [(at, (at - 1, at - 1)) for at in range(1, many)]


class IsPlan(Case):

    def test_plans(self):
        for plan in (PLAN, RING, [(0, ())], [[1, []]], [(0, ()), (2, (0,))], [(0, ()), (1, ()), (2, (0,)), (3, (1, 2))],
                     [(0, ()), (0, ()), (2, (0,)), (3, (1, 2))], [(0, ()), (2, (0,)), (3, (0, 1))],
                     RING + [(2, (3,))], RING + [(2, (0,)), (3, (3, 4))]):
            self.tells(True, is_plan, EXAMPLE, plan)

    def test_any_other_object(self):
        for thing in NO_PLANS:
            self.tells(False, is_plan, EXAMPLE, thing)

    def test_one_row_below_several_and_twice_below_one(self):
        program, plan = chain(3)
        self.tells(True, is_plan, program, plan)
        self.tells(True, is_plan, program, [(0, ()), (0, ()), (1, (1, 0)), (1, (0, 1)), (2, (3, 2))])

    def test_things_without_plans(self):
        program = Program(["flat"], [("x", [("y", 1, (0,))], (0,), ["sum"]), ("y", [("x", 1, (0,))], (0,), ["sum"])])
        for thing in ([(0, (0,))], [(0, (1,)), (1, (0,))], [(0, ())]):
            self.tells(False, is_plan, program, thing)
        self.tells(False, is_plan, Program(["flat"], []), [(0, ())])


class WrongPlans(Case):

    def test_each_tells_of_the_plan(self):
        for thing in NO_PLANS:
            for call in (plan_thing, plan_amount, done_of, stood_of, is_straight, straightened):
                self.refuses(BadPlan, "plan", thing, call, EXAMPLE, thing)

    def test_grafted(self):
        for thing in NO_PLANS:
            self.refuses(BadPlan, "plan", thing, grafted, EXAMPLE, thing, None, None)
            self.refuses(BadPlan, "plan", thing, grafted, EXAMPLE, PLAN, 0, thing)
        for thing in NO_NUMBERS + [4, 10 ** 30]:
            self.refuses(BadNumber, "number", thing, grafted, EXAMPLE, PLAN, thing, [(0, ())])
            self.refuses(BadNumber, "number", thing, grafted, EXAMPLE, PLAN, thing, None)
        for row, other in ((0, [(0, ()), (2, (0,))]), (1, [(0, ())]), (3, [(0, ())]), (1, PLAN)):
            self.refuses(UnlikeThings, None, None, grafted, EXAMPLE, PLAN, row, other)


class WhatPlansAre(Case):

    def test_of_the_example(self):
        self.tells("c", plan_thing, EXAMPLE, PLAN)
        self.tells((18, 4), plan_amount, EXAMPLE, PLAN)
        self.tells([3, 1, 1, 1, 0], done_of, EXAMPLE, PLAN)
        self.tells([1, 1, 1, 1, 0], stood_of, EXAMPLE, PLAN)
        self.tells("a", plan_thing, EXAMPLE, RING)
        self.tells((21, 4), plan_amount, EXAMPLE, RING)
        self.tells([4, 0, 1, 1, 1], done_of, EXAMPLE, RING)
        self.tells([2, 0, 1, 1, 1], stood_of, EXAMPLE, RING)

    def test_one_row(self):
        self.tells("a", plan_thing, EXAMPLE, [(1, [])])
        self.tells((2, 4), plan_amount, EXAMPLE, [[1, ()]])
        self.tells([0, 1, 0, 0, 0], done_of, EXAMPLE, [(1, ())])

    def test_twice_below_the_next(self):
        program, plan = doubling(40)
        self.tells("x", plan_thing, program, plan)
        self.tells([3 ** 39, (3 ** 39 - 1) // 2], done_of, program, plan)
        self.tells([2 ** 39, 2 ** 39 - 1], stood_of, program, plan)
        self.tells(((3 ** 40 - 1) // 2, 2 ** 40 - 1, 40), plan_amount, program, plan)

    def test_four_hundred_rows(self):
        program, plan = doubling(400)
        self.assertEqual(plan_amount(program, plan), ((3 ** 400 - 1) // 2, 2 ** 400 - 1, 400))
        self.assertEqual(done_of(program, plan), [3 ** 399, (3 ** 399 - 1) // 2])
        self.assertEqual(stood_of(program, plan), [2 ** 399, 2 ** 399 - 1])
        self.assertIs(is_plan(program, plan), True)
        self.assertIs(is_straight(program, plan), False)
        self.assertEqual(straightened(program, plan), [(0, ())])
        graft = grafted(program, plan, 0, [(0, ())])
        self.assertEqual(plan_amount(program, graft), plan_amount(program, plan))

    def test_a_chain_of_a_hundred_and_twenty_things(self):
        program, plan = chain(120)
        self.tells("t119", plan_thing, program, plan)
        self.tells((3 ** 119, 2 ** 120 - 1), plan_amount, program, plan)
        self.assertEqual(stood_of(program, plan), [2 ** (119 - at) for at in range(120)])
        self.assertEqual(done_of(program, plan), [3 ** (119 - at) for at in range(120)])
        self.tells(True, is_straight, program, plan)
        self.tells(plan, straightened, program, plan)

    def test_as_trees(self):
        chance = chance_of(43)
        for _ in range(150):
            program = some_program(chance, chance.randint(1, 5), chance.randint(1, 9), chance.choice([1, 9]))
            plan = some_plan(chance, program, chance.choice([1, 4, 12]))
            if plan is None or tree_size(plan) > 1000:
                continue
            tree = tree_of(plan)
            self.tells(program.all_rules()[tree[0]][0], plan_thing, program, plan)
            self.tells(tree_amount(program, tree), plan_amount, program, plan)
            self.tells(tree_counts(program, tree, True), done_of, program, plan)
            self.tells(tree_counts(program, tree, False), stood_of, program, plan)

    def test_amounts_are_own_amounts_times_how_often(self):
        chance = chance_of(431)
        met = 0
        for _ in range(200):
            program = some_program(chance, 3, 6, 9)
            word = chance.choice(["times", "sum"])
            how = [word] * len(program.own_sorts())
            rules = [(head, [(part[0], part[1], [0] * len(how)) for part in parts], own, how)
                     for head, parts, own, _ in program.all_rules()]
            program = Program(program.own_sorts(), rules)
            plan = some_plan(chance, program, 10)
            if plan is not None:
                often = done_of(program, plan) if word == "times" else stood_of(program, plan)
                sums = tuple(sum(rule[2][at] * count for rule, count in zip(rules, often)) for at in range(len(how)))
                self.assertEqual(plan_amount(program, plan), sums)
                met += 1
        self.assertGreater(met, 50)

    def test_amounts_are_made_row_by_row(self):
        amounts = []
        for number, below in PLAN:
            amounts.append(made_of(EXAMPLE, number, [amounts[row] for row in below]))
        self.assertEqual(plan_amount(EXAMPLE, PLAN), amounts[-1])


class Straight(Case):

    def test_is_straight(self):
        self.tells(True, is_straight, EXAMPLE, PLAN)
        self.tells(False, is_straight, EXAMPLE, RING)
        self.tells(True, is_straight, EXAMPLE, [(0, ())])
        self.tells(False, is_straight, EXAMPLE, RING + [(2, (3,))])
        self.tells(False, is_straight, EXAMPLE, RING + [(1, ()), (2, (4,)), (3, (3, 5))])

    def test_one_thing_side_by_side_is_straight(self):
        self.tells(True, is_straight, EXAMPLE, [(0, ()), (1, ()), (2, (1,)), (3, (0, 2))])
        program, plan = chain(2)
        self.tells(True, is_straight, program, plan)

    def test_a_straight_plan_stays(self):
        self.tells([(0, ()), (2, (0,)), (1, ()), (3, (2, 1))], straightened, EXAMPLE, PLAN)

    def test_straightened(self):
        self.tells([(0, ())], straightened, EXAMPLE, RING)
        self.tells([(0, ()), (2, (0,))], straightened, EXAMPLE, RING + [(2, (3,))])

    def check(self, program, plan):
        straight = self.told(straightened, program, plan)
        self.assertIs(is_plan(program, straight), True)
        self.assertIs(is_straight(program, straight), True)
        self.assertTrue(tree_is_straight(program, tree_of(straight)))
        self.assertEqual(plan_thing(program, straight), plan_thing(program, plan))
        self.assertTrue(is_at_most(plan_amount(program, straight), plan_amount(program, plan)))
        self.assertTrue(is_at_most(stood_of(program, straight), stood_of(program, plan)))
        self.assertLessEqual(len(straight), len(plan))

    def test_by_chance(self):
        chance = chance_of(44)
        found = []
        for _ in range(250):
            program = some_program(chance, chance.randint(1, 5), chance.randint(2, 12), 9)
            plan = some_plan(chance, program, chance.choice([3, 8, 20]))
            if plan is None or tree_size(plan) > 1000:
                continue
            self.tells(tree_is_straight(program, tree_of(plan)), is_straight, program, plan)
            found.append(is_straight(program, plan))
            self.check(program, plan)
        self.assertGreater(found.count(False), 20)
        self.assertGreater(found.count(True), 20)

    def test_rows_that_are_below_several_others(self):
        program = Program(["flat"], [
            ("a", [], (1,), ["sum"]), ("b", [("a", 1, (0,)), ("a", 1, (0,))], (1,), ["sum"]),
            ("a", [("b", 1, (0,)), ("a", 1, (0,))], (1,), ["sum"]),
        ])
        plan = [(0, ())]
        for _ in range(30):
            plan.append((1, (len(plan) - 1, len(plan) - 1)))
            plan.append((2, (len(plan) - 1, len(plan) - 2)))
        self.check_amounts(program, plan)

    def check_amounts(self, program, plan):
        straight = self.told(straightened, program, plan)
        self.assertEqual(straight, [(0, ())])
        straight = self.told(straightened, program, plan[:-1])
        self.assertEqual(straight, [(0, ()), (1, (0, 0))])


class Grafted(Case):

    def test_in_the_place_of_a_row(self):
        other = [(1, ())]
        graft = self.told(grafted, EXAMPLE, PLAN, 0, other)
        self.assertEqual(tree_of(graft), (3, ((1, ()), (2, ((1, ()),)))))
        self.assertEqual(plan_amount(EXAMPLE, graft), (9, 6))
        graft = self.told(grafted, EXAMPLE, PLAN, 1, [(1, ()), (2, (0,))])
        self.assertEqual(tree_of(graft), (3, ((1, ()), (2, ((1, ()),)))))

    def test_in_the_place_of_the_last_row(self):
        other = [[0, []], [2, [0]], [3, [0, 1]]]
        graft = self.told(grafted, EXAMPLE, PLAN, 3, other)
        self.assertEqual(tree_of(graft), tree_of(other[:2] + [(3, (0, 1))]))
        self.assertLessEqual(len(graft), len(PLAN) + 3)

    def test_what_is_below_another_row_too_stays(self):
        plan = [(0, ()), (2, (0,)), (3, (0, 1))]
        graft = self.told(grafted, EXAMPLE, plan, 1, [(1, ()), (2, (0,))])
        self.assertEqual(tree_of(graft), (3, ((0, ()), (2, ((1, ()),)))))
        graft = self.told(grafted, EXAMPLE, plan, 0, [(1, ())])
        self.assertEqual(tree_of(graft), (3, ((1, ()), (2, ((1, ()),)))))

    def test_all_that_is_below_it_alone_goes(self):
        graft = self.told(grafted, EXAMPLE, RING, 3, [(1, ())])
        self.assertEqual(graft, [(1, ())])
        graft = self.told(grafted, EXAMPLE, RING + [(2, (3,))], 3, [(1, ())])
        self.assertEqual(tree_of(graft), (2, ((1, ()),)))
        self.assertEqual(len(graft), 2)

    def test_a_plan_in_itself(self):
        graft = self.told(grafted, EXAMPLE, RING, 0, RING)
        self.assertIs(is_plan(EXAMPLE, graft), True)
        self.assertEqual(tree_of(graft), tree_with(RING, 0, tree_of(RING), 3))
        self.assertLessEqual(len(graft), 8)

    def test_by_chance(self):
        chance = chance_of(441)
        met = 0
        for _ in range(400):
            program = some_program(chance, chance.randint(1, 3), chance.randint(2, 8), 9)
            plan, other = some_plan(chance, program, 9), some_plan(chance, program, 6)
            if plan is None or tree_size(plan) * tree_size(other) > 3000:
                continue
            row = chance.randrange(len(plan))
            rules = program.all_rules()
            if rules[plan[row][0]][0] != plan_thing(program, other):
                self.refuses(UnlikeThings, None, None, grafted, program, plan, row, other)
                continue
            graft = self.told(grafted, program, plan, row, other)
            self.assertIs(is_plan(program, graft), True)
            self.assertEqual(tree_of(graft), tree_with(plan, row, tree_of(other), len(plan) - 1))
            self.assertLessEqual(len(graft), len(plan) + len(other))
            if is_at_most(plan_amount(program, other), tree_amount(program, tree_of(plan, row))):
                self.assertTrue(is_at_most(plan_amount(program, graft), plan_amount(program, plan)))
            met += 1
        self.assertGreater(met, 100)

    def test_many_rows(self):
        program, plan = doubling(40)
        graft = self.told(grafted, program, plan, 20, plan)
        self.assertEqual(stood_of(program, graft), [2 ** (19 + 39), 2 ** 58 - 1])
        self.assertLessEqual(len(graft), 80)


class PlansAndFronts(Case):

    def test_each_plan_has_a_front_amount_at_most_its_own(self):
        chance = chance_of(51)
        for _ in range(100):
            program = some_program(chance, 4, 8, 9)
            plan = some_plan(chance, program, 12)
            if plan is not None:
                amounts = front(program, plan_thing(program, plan))
                self.assertTrue(any(is_at_most(amount, plan_amount(program, plan)) for amount in amounts))


if __name__ == "__main__":
    unittest.main()
