"""Promise 6.2, and 6.5 as far as it tells of it: potentials and tight rules."""

import unittest

from anyprice.costs import least_costs
from anyprice.errors import BadPrices, NotTimes
from anyprice.plans import plan_amount, plan_thing
from anyprice.potentials import are_potentials, tight_rules
from anyprice.programs import Program
from helpers import (NO_LISTS, NO_PAIRS, Case, chance_of, plain_fronts, product, rich_program, some_plan, tree_amount,
                     tree_rules, trees_up_to)
from test_costs import STAIRS, TIMES


def timed(program):
    """The program with "times" everywhere."""
    many = len(program.own_sorts())
    rules = [(head, [(part[0], part[1], (0,) * many) for part in parts], own, ("times",) * many)
             for head, parts, own, _ in program.all_rules()]
    return Program(program.own_sorts(), rules)


def plain_are(program, prices, worths):
    """Whether worths, for just all things, are potentials."""
    for head, parts, own, _ in program.all_rules():
        below = [worths[part[0]] for part in parts]
        if None not in below:
            limit = product(own, prices) + sum(part[1] * worth for part, worth in zip(parts, below))
            if worths[head] is None or worths[head] > limit:
                return False
    return True


class Potentials(Case):

    def test_the_example(self):
        self.tells(True, are_potentials, STAIRS, (1, 2), {"x": 6, "y": 13})
        self.tells(False, are_potentials, STAIRS, (1, 2), {"x": 7, "y": 13})
        self.tells(False, are_potentials, STAIRS, (1, 2), {"x": 6, "y": 14})
        self.tells(True, are_potentials, STAIRS, (1, 2), {"x": 5, "y": 11})
        self.tells(False, are_potentials, STAIRS, (1, 2), {"x": 5, "y": 12})
        self.tells(True, are_potentials, STAIRS, (10, 20), {"x": 60, "y": 130})
        self.tells(False, are_potentials, STAIRS, (10, 20), {"x": 61, "y": 130})

    def test_in_any_order_and_below_nought(self):
        self.assertIs(are_potentials(STAIRS, (1, 2), {"y": 13, "x": 6}), True)
        self.tells(True, are_potentials, STAIRS, (1, 2), {"x": -5, "y": -9})
        self.tells(False, are_potentials, STAIRS, (1, 2), {"x": -5, "y": -8})
        self.tells(True, are_potentials, STAIRS, (1, 2), {"x": 6, "y": -10 ** 30})
        self.tells(True, are_potentials, STAIRS, (1, 2), {"x": 0, "y": 0})

    def test_none_for_things_without_plans_alone(self):
        program = Program(["flat"], [("x", [], [3], ["times"]), ("y", [("h", 2, [0])], [1], ["times"]),
                                     ("z", [("x", 2, [0]), ("y", 1, [0])], [1], ["times"])])
        self.tells(True, are_potentials, program, (2,), {"h": None, "x": 6, "y": None, "z": None})
        self.tells(True, are_potentials, program, (2,), {"h": None, "x": 6, "y": 100, "z": 114})
        self.tells(False, are_potentials, program, (2,), {"h": None, "x": 6, "y": 100, "z": 115})
        self.tells(True, are_potentials, program, (2,), {"h": None, "x": -1, "y": 100, "z": 7})
        self.tells(False, are_potentials, program, (2,), {"h": None, "x": None, "y": None, "z": None})
        self.tells(False, are_potentials, program, (2,), {"h": 1, "x": 6, "y": None, "z": None})
        self.tells(True, are_potentials, program, (2,), {"h": 1, "x": 6, "y": 4, "z": 18})
        self.tells(False, are_potentials, program, (2,), {"h": 1, "x": 6, "y": 4, "z": None})

    def test_rings(self):
        program = Program(["flat"], [("x", [("y", 1, [0])], [0], ["times"]), ("y", [("x", 1, [0])], [0], ["times"])])
        for worths, expected in ((({"x": None, "y": None}), True), ({"x": 7, "y": 7}, True), ({"x": 7, "y": 8}, False),
                                 ({"x": 8, "y": 7}, False), ({"x": None, "y": 7}, False), ({"x": -3, "y": -3}, True)):
            self.tells(expected, are_potentials, program, (1,), worths)
        dear = Program(["flat"], [("x", [("x", 2, [0])], [1], ["times"])])
        for worth, expected in ((-3, False), (-2, False), (-1, True), (0, True), (5, True), (None, True)):
            self.tells(expected, are_potentials, dear, (1,), {"x": worth})

    def test_any_other_object(self):
        for thing in NO_LISTS + [[], (), ["x", "y"], [("x", 6), ("y", 13)], (6, 13), "xy", {"x": 6}, {"y": 13},
                                 {"x": 6, "y": 13, "z": 0}, {"x": 6, "z": 13}, {"x": 6, 1: 13}, {"x": 6, ("y",): 13},
                                 {"x": True, "y": 3}, {"x": 6, "y": False}, {"x": "6", "y": 13}, {"x": 6, "y": [13]},
                                 {"x": (6,), "y": 13}, {"x": 6, "y": {}}, {None: 6, "y": 13}]:
            self.assertIs(are_potentials(STAIRS, (1, 2), thing), False)

    def test_no_things(self):
        program = Program(["flat", "flat"], [])
        self.tells(True, are_potentials, program, (1, 2), {})
        for thing in ([], (), None, 0, "", {"x": 1}):
            self.tells(False, are_potentials, program, (1, 2), thing)

    def test_least_costs_are_the_greatest(self):
        chance = chance_of(62)
        for _ in range(100):
            program = timed(rich_program(chance, 4, 5, 9))
            prices = [chance.randint(1, 5) for _ in program.own_sorts()]
            costs = least_costs(program, prices)
            self.tells(True, are_potentials, program, prices, costs)
            for thing in costs:
                if costs[thing] is not None:
                    self.tells(False, are_potentials, program, prices, dict(costs, **{thing: costs[thing] + 1}))

    def test_as_the_plain_way(self):
        chance = chance_of(621)
        found = []
        for _ in range(300):
            program = timed(rich_program(chance, 3, 3, 4))
            prices = [chance.randint(1, 3) for _ in program.own_sorts()]
            worths = {thing: chance.choice([None, chance.randint(-4, 9)]) for thing in program.things()}
            found.append(plain_are(program, prices, worths))
            self.tells(found[-1], are_potentials, program, prices, worths)
        self.assertGreater(found.count(True), 10)
        self.assertGreater(found.count(False), 10)

    def test_no_plan_costs_less(self):
        chance = chance_of(622)
        met = 0
        for _ in range(500):
            program = timed(rich_program(chance, 3, 3, 4))
            prices = [chance.randint(1, 3) for _ in program.own_sorts()]
            costs = least_costs(program, prices)
            worths = {thing: None if costs[thing] is None else costs[thing] - chance.randint(0, 2) for thing in costs}
            plan = some_plan(chance, program, 8)
            if plan is not None and are_potentials(program, prices, worths):
                self.assertLessEqual(worths[plan_thing(program, plan)], product(plan_amount(program, plan), prices))
                met += 1
        self.assertGreater(met, 50)


class Tight(Case):

    def test_the_example(self):
        self.tells([3, 4], tight_rules, STAIRS, (1, 2))
        self.tells([0, 2, 3, 4], tight_rules, STAIRS, (1, 1))
        self.tells([0, 4], tight_rules, STAIRS, (2, 1))
        self.tells([0, 4], tight_rules, STAIRS, (20, 10))

    def test_without_plans(self):
        program = Program(["flat"], [("x", [("h", 1, [0])], [0], ["times"]), ("y", [("y", 1, [0])], [0], ["times"])])
        self.tells([], tight_rules, program, (1,))
        self.tells([], tight_rules, Program(["flat"], []), (1,))

    def test_a_ring_for_nothing_is_tight(self):
        program = Program(["flat"], [("x", [("x", 1, [0])], [0], ["times"]), ("x", [], [2], ["times"]),
                                     ("x", [("x", 1, [0])], [1], ["times"])])
        self.tells([0, 1], tight_rules, program, (3,))

    def test_a_high_resource(self):
        program = Program(["high", "flat"], [("x", [], [1, 4], TIMES), ("x", [], [3, 3], TIMES)])
        self.tells([0, 1], tight_rules, program, (1, 2))
        self.tells([0], tight_rules, program, (1, 1))

    def test_as_the_plain_way(self):
        chance = chance_of(623)
        for _ in range(80):
            program = timed(rich_program(chance, 4, 5, 4))
            prices = [chance.randint(1, 3) for _ in program.own_sorts()]
            least = {thing: min([product(amount, prices) for amount in amounts], default=None)
                     for thing, amounts in plain_fronts(program).items()}
            expected = []
            for number, (head, parts, own, _) in enumerate(program.all_rules()):
                below = [least[part[0]] for part in parts]
                if None not in below:
                    total = product(own, prices) + sum(part[1] * worth for part, worth in zip(parts, below))
                    if total == least[head]:
                        expected.append(number)
            self.tells(expected, tight_rules, program, prices)

    def test_best_plans_have_tight_rules_alone(self):
        chance = chance_of(624)
        found = []
        for _ in range(60):
            program = timed(rich_program(chance, 3, 4, 4, rings=False))
            prices = [chance.randint(1, 3) for _ in program.own_sorts()]
            costs, tight = least_costs(program, prices), set(tight_rules(program, prices))
            for thing, trees in (trees_up_to(program, 3, 800) or {}).items():
                for tree in trees:
                    is_best = product(tree_amount(program, tree), prices) == costs[thing]
                    self.assertIs(is_best, tree_rules(tree) <= tight)
                    found.append(is_best)
        self.assertIn(True, found)
        self.assertIn(False, found)

    def test_the_limits_of_programs(self):
        how = ("times",) * 3
        rules = [("t0", [], (10 ** 6, 0, 1), how), ("t0", [], (0, 10 ** 6, 1), how)]
        rules += [(f"t{at}", [(f"t{at - 1}", 1, (0, 0, 0))], (at, 0, 1), how) for at in range(1, 120)]
        rules += [(f"t{at}", [(f"t{(at + 7) % 120}", 3, (0, 0, 0))], (1, 1, 1), how) for at in range(120)]
        program = Program(["flat", "flat", "high"], rules)
        prices = (10 ** 6, 10 ** 6, 10 ** 6)
        self.tells(list(range(121)), tight_rules, program, prices)
        self.tells([0] + list(range(2, 121)), tight_rules, program, (1, 10 ** 6, 1))
        costs = self.told(least_costs, program, prices)
        self.assertEqual(costs["t119"], 10 ** 12 + 10 ** 6 * (119 * 60 + 120))
        self.tells(True, are_potentials, program, prices, costs)


class Refused(Case):
    mixed = [("x", [], (1, 1), TIMES), ("x", [], (1, 1), ("times", "sum")), ("y", [], (1, 1), ("sum", "most"))]

    def test_rules_that_say_another_word(self):
        for number, rules in ((1, self.mixed), (0, self.mixed[1:]), (0, self.mixed[2:]), (2, self.mixed[:1] * 2 + self.mixed[1:])):
            program = Program(["flat", "high"], rules)
            self.refuses(NotTimes, "number", number, are_potentials, program, None, None)
            self.refuses(NotTimes, "number", number, are_potentials, program, (1, 1), {"x": 1, "y": 1})
            self.refuses(NotTimes, "number", number, tight_rules, program, None)
            self.refuses(NotTimes, "number", number, tight_rules, program, (1, 1))

    def test_what_are_no_prices(self):
        for prices in NO_PAIRS:
            self.refuses(BadPrices, "prices", prices, are_potentials, STAIRS, prices, {"x": 6, "y": 13})
            self.refuses(BadPrices, "prices", prices, are_potentials, STAIRS, prices, None)
            self.refuses(BadPrices, "prices", prices, tight_rules, STAIRS, prices)


if __name__ == "__main__":
    unittest.main()
