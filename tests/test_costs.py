"""Promise 6.1, and 6.5 as far as it tells of it: least costs, best amounts, best plans."""

import unittest
from itertools import product as all_of

from anyprice.costs import best_amounts, best_plan, least_cost, least_costs
from anyprice.errors import BadPrices, NoThing
from anyprice.fronts import front
from anyprice.plans import is_plan, plan_amount, plan_thing
from anyprice.programs import Program
from anyprice.rows import cost
from helpers import (EXAMPLE, NO_LISTS, NO_PAIRS, Case, bare_program, bowl, chance_of, least_at, plain_fronts, product,
                     rich_program, some_plan, tree_amount, trees_up_to)

TIMES = ("times", "times")
# The program of the document's example 6.5.
STAIRS = Program(["flat", "flat"], [("x", [], own, TIMES) for own in ((0, 6), (2, 5), (3, 3), (6, 0))] + [
    ("y", [("x", 2, (0, 0))], (1, 0), TIMES),
])
GREAT = 10 ** 18


class Costs(Case):

    def check_plan(self, program, thing, prices, least):
        plan = self.told(best_plan, program, thing, prices)
        if least is None:
            self.assertIsNone(plan)
        else:
            self.assertIs(is_plan(program, plan), True)
            self.assertEqual(plan_thing(program, plan), thing)
            self.assertEqual(cost(plan_amount(program, plan), prices), least)

    def check(self, program, prices):
        fronts = plain_fronts(program)
        least = {thing: least_at(amounts, prices) for thing, amounts in fronts.items()}
        self.tells(least, least_costs, program, prices)
        for thing, amounts in fronts.items():
            best = [amount for amount in amounts if product(amount, prices) == least[thing]]
            self.tells(least[thing], least_cost, program, thing, prices)
            self.tells(best, best_amounts, program, thing, prices)
            self.check_plan(program, thing, prices, least[thing])

    def test_the_example(self):
        self.tells({"x": 6, "y": 13}, least_costs, STAIRS, (1, 2))
        self.tells(6, least_cost, STAIRS, "x", (1, 2))
        self.tells([(6, 0)], best_amounts, STAIRS, "x", (1, 2))
        self.tells([(0, 6), (3, 3), (6, 0)], best_amounts, STAIRS, "x", (1, 1))
        self.tells([(1, 12), (7, 6), (13, 0)], best_amounts, STAIRS, "y", (1, 1))
        self.check(STAIRS, (1, 1))
        self.check_plan(STAIRS, "y", (1, 2), 13)

    def test_prices_with_a_common_divisor(self):
        self.tells({"x": 60, "y": 130}, least_costs, STAIRS, (10, 20))
        self.tells([(0, 6), (3, 3), (6, 0)], best_amounts, STAIRS, "x", (10 ** 6, 10 ** 6))
        self.assertEqual(best_plan(STAIRS, "x", (1, 1)), best_plan(STAIRS, "x", (7, 7)))

    def test_without_plans(self):
        program = Program(["flat", "high"], [("x", [("h", 1, (0, 0))], (1, 1), TIMES), ("y", [], (0, 0), TIMES)])
        self.tells({"h": None, "x": None, "y": 0}, least_costs, program, (1, 1))
        for thing in "hx":
            self.tells(None, least_cost, program, thing, (2, 3))
            self.tells([], best_amounts, program, thing, (2, 3))
            self.tells(None, best_plan, program, thing, (2, 3))
        self.tells(0, least_cost, program, "y", (2, 3))
        self.tells({}, least_costs, Program(["flat"], []), (4,))

    def test_one_and_three_resources(self):
        self.tells({"x": 21}, least_costs, bare_program(["high"], {"x": [(3,), (4,)]}), (7,))
        program = bare_program(["flat", "high", "flat"], {"x": [(0, 0, 5), (0, 5, 0), (5, 0, 0)], "y": [(1, 1, 1)]})
        self.tells({"x": 5, "y": 6}, least_costs, program, (1, 2, 3))
        self.tells([(0, 0, 5), (0, 5, 0), (5, 0, 0)], best_amounts, program, "x", (4, 4, 4))

    def test_as_the_plain_way(self):
        chance = chance_of(61)
        for _ in range(80):
            program = rich_program(chance, 4, 5, chance.choice([2, 9]))
            self.check(program, [chance.randint(1, 5) for _ in program.own_sorts()])

    def test_all_plans_that_cost_least(self):
        # What costs least is told of all plans; a best one can come to a part that is none of its thing's best.
        chance = chance_of(611)
        met = 0
        for _ in range(200):
            program = rich_program(chance, 3, 4, 3, rings=False)
            trees = trees_up_to(program, 4, 1500)
            prices = [chance.randint(1, 3) for _ in program.own_sorts()]
            for thing, found in (trees or {}).items():
                amounts = {tree_amount(program, tree) for tree in found}
                least = least_at(amounts, prices)
                best = sorted(amount for amount in amounts if product(amount, prices) == least)
                self.tells(best, best_amounts, program, thing, prices)
                met += len(best) > 1
        self.assertGreater(met, 2)

    def test_rings(self):
        chance = chance_of(612)
        for _ in range(60):
            program = rich_program(chance, 3, 6, 6)
            plan = some_plan(chance, program, 12)
            if plan is not None:
                prices = [chance.randint(1, 9) for _ in program.own_sorts()]
                least = least_cost(program, plan_thing(program, plan), prices)
                self.assertLessEqual(least, cost(plan_amount(program, plan), prices))

    def test_great_numbers(self):
        amounts = bowl(chance_of(613), 3, 40)
        program = bare_program(["flat", "high", "flat"], {"x": amounts})
        for prices in ((1, 1, 1), (10 ** 6, 1, 10 ** 6), (10 ** 6, 10 ** 6 - 1, 3)):
            self.tells({"x": least_at(amounts, prices)}, least_costs, program, prices)
            self.check_plan(program, "x", prices, least_at(amounts, prices))

    def test_the_limits_of_programs(self):
        rules = [("t0", [], (k, 38 - k, k % 3), ["sum"] * 3) for k in range(0, 40, 2)]
        rules += [(f"t{at}", [(f"t{at - 1}", 1, (0, 0, 0))], (at % 2, 1, 0), ["sum"] * 3) for at in range(1, 120)]
        rules += [(f"t{at}", [(f"t{(at + 7) % 120}", 1, (0, 0, 0))], (3, 3, 3), ["sum"] * 3) for at in range(120)]
        program = Program(["flat", "flat", "flat"], rules)
        least = {thing: 10 ** 9 for thing in program.things()}
        for _ in range(120):
            for head, parts, own, _ in program.all_rules():
                least[head] = min(least[head], product(own, (5, 4, 6)) + sum(least[part[0]] for part in parts))
        self.tells(least, least_costs, program, (5, 4, 6))
        self.check_plan(program, "t60", (5, 4, 6), least["t60"])
        self.assertEqual(front(program, "t3")[0], (2, 41, 0))


class Refused(Case):

    def test_what_is_no_thing(self):
        for thing in NO_LISTS + ["x", ["a"], ("a",)]:
            if thing != "a":
                for call in (least_cost, best_amounts, best_plan):
                    self.refuses(NoThing, "thing", thing, call, EXAMPLE, thing, None)

    def test_what_are_no_prices(self):
        for prices in NO_PAIRS:
            self.refuses(BadPrices, "prices", prices, least_costs, EXAMPLE, prices)
            for call in (least_cost, best_amounts, best_plan):
                self.refuses(BadPrices, "prices", prices, call, EXAMPLE, "a", prices)

    def test_of_one_and_three_resources(self):
        for many in (1, 3):
            program = bare_program(["flat"] * many, {"x": [(1,) * many], "y": []})
            for prices in all_of((0, 1), repeat=many):
                if 0 in prices:
                    self.refuses(BadPrices, "prices", prices, least_costs, program, prices)
                    self.refuses(BadPrices, "prices", prices, best_plan, program, "y", prices)
            self.refuses(BadPrices, "prices", (1, 1), least_cost, program, "y", (1, 1))

    def test_no_things_at_all(self):
        self.refuses(BadPrices, "prices", (0,), least_costs, Program(["flat"], []), (0,))


if __name__ == "__main__":
    unittest.main()
