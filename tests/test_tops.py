"""Promise 5.4, and 5.7 as far as it tells of it: plans of front amounts, their last rules, sure rules."""

import unittest

from anyprice.errors import NoAmount, NoThing
from anyprice.fronts import front
from anyprice.plans import is_plan, is_straight, plan_amount, plan_thing
from anyprice.programs import Program
from anyprice.tops import plan_of, sure_rules, tops
from helpers import (EXAMPLE, NO_AMOUNTS, NO_LISTS, Case, bare_program, bowl, chance_of, plain_fronts, plain_least,
                     rich_program, some_program, straight_trees, tree_amount, tree_rules, trees_up_to)


def summed(head, parts, own):
    return (head, [(part, 1, [0] * len(own)) for part in parts], own, ["sum"] * len(own))


def plain_sure(program, thing, amount):
    """The rules without which, one alone left out, the front lacks the amount."""
    fronts = [plain_fronts(program.without_rule(number)) for number in range(len(program))]
    return [number for number in range(len(program)) if amount not in fronts[number].get(thing, [])]


def small_programs(number, rounds, limit):
    """Programs at random whose straight plans can be told one by one, with these as dicts of trees."""
    chance = chance_of(number)
    for _ in range(rounds):
        program = rich_program(chance, chance.randint(1, 4), chance.randint(1, 5), chance.choice([1, 3, 9]))
        trees = {thing: straight_trees(program, thing) for thing in program.things()}
        if sum(len(found) for found in trees.values()) <= limit:
            yield program, trees


class PlanOf(Case):

    def check(self, program, thing, amount):
        plan = self.told(plan_of, program, thing, amount)
        self.assertIs(type(plan), list)
        self.assertTrue(all(type(row) is tuple and type(row[1]) is tuple for row in plan))
        self.assertIs(is_plan(program, plan), True)
        self.assertIs(is_straight(program, plan), True)
        self.assertEqual(plan_thing(program, plan), thing)
        self.assertEqual(plan_amount(program, plan), tuple(amount))
        return plan

    def test_the_example(self):
        for thing, amounts in plain_fronts(EXAMPLE).items():
            for amount in amounts:
                self.check(EXAMPLE, thing, amount)
        plan = self.check(EXAMPLE, "c", (18, 4))
        self.assertEqual({row[0] for row in plan}, {0, 1, 2, 3})

    def test_without_parts(self):
        self.tells([(0, ())], plan_of, EXAMPLE, "a", (5, 1))
        self.tells([(1, ())], plan_of, EXAMPLE, "a", [2, 4])

    def test_rings_that_cost_nothing(self):
        # Each of the three things is had of the next one for nothing, and one of them by itself.
        rules = [summed("x", ["y"], [0]), summed("y", ["z"], [0]), summed("z", ["x"], [0])]
        for number, thing in enumerate("xyz"):
            program = Program(["flat"], rules + [summed(thing, [], [0])])
            for other in "xyz":
                self.check(program, other, (0,))
            self.tells([(3, ())], plan_of, program, thing, (0,))
        self.assertEqual(len(self.check(program, "x", (0,))), 3)

    def test_a_thing_of_itself(self):
        program = Program(["high"], [("x", [("x", 2, [0]), ("x", 1, [0])], [0], ["most"]), ("x", [], [7], ["most"])])
        self.tells([(1, ())], plan_of, program, "x", (7,))

    def test_amounts_that_the_greatest_hides(self):
        # b needs no best a: what a is had at does not show.
        program = Program(["high"], [("a", [], [1], ["most"]), ("b", [("a", 1, [0])], [5], ["most"])])
        self.check(program, "b", (5,))

    def test_by_chance(self):
        chance = chance_of(54)
        met = 0
        for _ in range(100):
            make = chance.choice([some_program, rich_program])
            program = make(chance, chance.randint(1, 6), chance.randint(1, 12), chance.choice([1, 3, 9]))
            for thing, amounts in plain_fronts(program).items():
                for amount in amounts:
                    self.check(program, thing, amount)
                    met += 1
        self.assertGreater(met, 150)

    def test_four_parts_of_forty_amounts(self):
        # Each amount of y has just one way.
        rules = [summed(name, [], [k * 40 ** place, (39 - k) * 40 ** place]) for place, name in enumerate("pq")
                 for k in range(40)]
        rules += [summed("y", ["p", "q", "p", "p"], [1, 1]), summed("y", [], [5, 1000]), summed("y", [], [1000, 1])]
        program = Program(["flat", "flat"], [rule for rule in rules if rule[0] != "p" or rule[2][0] < 3] + rules[:1])
        for amount in front(program, "y")[:40:13]:
            self.check(program, "y", amount)

    def test_a_chain_of_a_hundred_and_twenty_things(self):
        rules = [summed("t0", [], [k, 39 - k, 5]) for k in range(40)]
        rules += [summed(f"t{at}", [f"t{at - 1}"], [1, 0, at % 2]) for at in range(1, 120)]
        program = Program(["flat", "flat", "high"], rules)
        plan = self.check(program, "t119", (119 + 20, 19, 65))
        self.assertEqual(len(plan), 120)

    def test_great_numbers(self):
        program = bare_program(["flat"] * 3, {"x": bowl(chance_of(1), 3, 40)})
        for number, rule in enumerate(program.all_rules()):
            self.tells([(number, ())], plan_of, program, "x", rule[2])


class Tops(Case):

    def test_the_example(self):
        self.tells({0: [(5, 1)], 1: [(2, 4)], 4: []}, tops, EXAMPLE, "a")
        self.tells({2: [(7, 4), (16, 2)]}, tops, EXAMPLE, "b")
        self.tells({3: [(9, 6), (18, 4)]}, tops, EXAMPLE, "c")

    def test_without_rules_and_without_plans(self):
        program = Program(["flat"], [summed("x", ["y"], [0]), summed("z", ["z"], [0]), summed("z", ["x"], [1])])
        self.tells({}, tops, program, "y")
        self.tells({0: []}, tops, program, "x")
        self.tells({1: [], 2: []}, tops, program, "z")

    def test_a_thing_of_itself_for_nothing(self):
        program = Program(["flat"], [summed("x", ["x"], [0]), summed("x", [], [3])])
        self.tells({0: [], 1: [(3,)]}, tops, program, "x")

    def test_a_part_that_is_had_of_the_thing_alone(self):
        program = Program(["flat"], [summed("x", [], [3]), summed("x", ["y"], [0]), summed("y", ["x"], [0]),
                                     summed("y", [], [3])])
        self.tells({0: [(3,)], 1: [(3,)]}, tops, program, "x")
        self.tells({2: [(3,)], 3: [(3,)]}, tops, program, "y")
        self.tells({0: [(3,)], 1: []}, tops, program.without_rule(3), "x")

    def test_by_two_rules(self):
        program = Program(["flat", "flat"], [summed("x", [], [1, 2]), summed("x", [], [2, 1]), summed("x", ["y"], [0, 0]),
                                             summed("y", [], [1, 2]), summed("y", [], [2, 1]), summed("x", ["y"], [0, 1])])
        self.tells({0: [(1, 2)], 1: [(2, 1)], 2: [(1, 2), (2, 1)], 5: []}, tops, program, "x")

    def test_greatest_that_many_ways_make(self):
        how = ["times", "most"]
        program = Program(["flat", "high"], [
            ("a", [], (1, 5), how), ("a", [], (3, 1), how), ("b", [("a", 2, (0, 0)), ("a", 1, (0, 3))], (0, 7), how),
            ("b", [], (3, 8), how), ("b", [], (9, 7), how),
        ])
        self.tells({2: [(3, 8), (5, 7)], 3: [(3, 8)], 4: []}, tops, program, "b")

    def test_of_all_straight_plans(self):
        met = 0
        for program, trees in small_programs(541, 250, 400):
            for thing, found in trees.items():
                amounts = plain_least([tree_amount(program, tree) for tree in found])
                self.assertEqual(front(program, thing), amounts)
                expected = {
                    number: sorted({tree_amount(program, tree) for tree in found if tree[0] == number} & set(amounts))
                    for number, rule in enumerate(program.all_rules()) if rule[0] == thing
                }
                self.tells(expected, tops, program, thing)
                met += len(found)
        self.assertGreater(met, 500)

    def test_few_amounts_are_left_of_many(self):
        rules = [summed(name, [], [1, k * 30 ** place, (29 - k) * 30 ** place])
                 for place, name in enumerate("pqrs") for k in range(30)]
        rules += [summed("x", ["p", "q", "r", "s"], [0, 0, 0]), summed("x", [], [3, 0, 0])]
        self.tells({120: [], 121: [(3, 0, 0)]}, tops, Program(["flat"] * 3, rules), "x")

    def test_forty_amounts(self):
        rules = [summed("x", [], [k, 39 - k]) for k in range(40)] + [summed("x", ["y"], [0, k]) for k in range(20)]
        rules += [summed("y", [], [k, 39 - k]) for k in range(0, 40, 2)]
        told = self.told(tops, Program(["flat", "flat"], rules), "x")
        self.assertEqual(told[7], [(7, 32)])
        self.assertEqual(told[40], [(k, 39 - k) for k in range(0, 40, 2)])
        self.assertEqual([told[number] for number in range(41, 60)], [[]] * 19)


class SureRules(Case):

    def test_the_example(self):
        self.tells([0, 1, 2, 3], sure_rules, EXAMPLE, "c", (18, 4))
        self.tells([1, 2, 3], sure_rules, EXAMPLE, "c", (9, 6))
        self.tells([0], sure_rules, EXAMPLE, "a", [5, 1])

    def test_two_ways(self):
        program = Program(["flat"], [summed("x", [], [3]), summed("x", ["y"], [0]), summed("y", [], [3])])
        self.tells([], sure_rules, program, "x", (3,))
        self.tells([2], sure_rules, program, "y", (3,))

    def test_two_rules_that_are_the_same(self):
        program = Program(["flat"], [summed("x", [], [3]), summed("x", [], [3]), summed("y", ["x"], [1])])
        self.tells([], sure_rules, program, "x", (3,))
        self.tells([2], sure_rules, program, "y", (4,))

    def test_worse_parts_are_as_good_where_the_greatest_hides_it(self):
        # Without rule 0 the part is had at 2, which is under no amount then, and b at 5 all the same.
        program = Program(["high"], [("a", [], [1], ["most"]), ("a", [], [2], ["most"]), ("a", [], [6], ["most"]),
                                     ("b", [("a", 1, [0])], [5], ["most"])])
        self.tells([3], sure_rules, program, "b", (5,))
        self.tells([0], sure_rules, program, "a", (1,))
        self.tells([0, 2], sure_rules, program.without_rule(1), "b", (5,))

    def test_worse_parts_with_extras(self):
        how = ["most"]
        rules = [("a", [], [1], how), ("a", [], [3], how), ("b", [("a", 1, [2]), ("c", 1, [0])], [0], how), ("c", [], [5], how)]
        self.tells([2, 3], sure_rules, Program(["high"], rules), "b", (5,))
        rules[2] = ("b", [("a", 1, [3]), ("c", 1, [0])], [0], how)
        self.tells([0, 2, 3], sure_rules, Program(["high"], rules), "b", (5,))

    def test_rings(self):
        program = Program(["flat"], [summed("x", ["y"], [0]), summed("y", ["x"], [0]), summed("x", [], [2]),
                                     summed("y", [], [2])])
        self.tells([], sure_rules, program, "x", (2,))
        self.tells([0, 2], sure_rules, program.without_rule(2), "x", (2,))
        self.tells([2], sure_rules, program.without_rule(3), "x", (2,))
        self.tells([1, 2], sure_rules, program.without_rule(3), "y", (2,))

    def test_rings_of_three(self):
        rules = [summed("x", ["y", "z"], [1]), summed("y", ["z"], [1]), summed("z", ["x"], [0]), summed("z", [], [4]),
                 summed("y", ["x"], [0]), summed("x", [], [30])]
        program = Program(["flat"], rules)
        self.tells([0, 1, 3], sure_rules, program, "x", (10,))
        self.tells([1, 3], sure_rules, program, "y", (5,))

    def test_as_the_plain_way(self):
        chance = chance_of(542)
        met = 0
        for _ in range(120):
            program = rich_program(chance, chance.randint(1, 5), chance.randint(1, 7), chance.choice([1, 2, 5]))
            for thing, amounts in plain_fronts(program).items():
                for amount in amounts[:3]:
                    told = plain_sure(program, thing, amount)
                    self.tells(told, sure_rules, program, thing, amount)
                    met += len(told) > 1
        self.assertGreater(met, 50)

    def test_of_all_plans_of_things_without_rings(self):
        chance = chance_of(543)
        met = 0
        for _ in range(150):
            program = rich_program(chance, 4, 4, 3, rings=False)
            trees = trees_up_to(program, len(program.things()), 800)
            if trees is None:
                continue
            for thing, found in trees.items():
                for amount in front(program, thing):
                    used = [tree_rules(tree) for tree in found if tree_amount(program, tree) == amount]
                    self.tells(sorted(set.intersection(*used)), sure_rules, program, thing, amount)
                    met += len(used) > 1
        self.assertGreater(met, 30)

    def test_a_chain_of_things_with_two_rules_each(self):
        rules = [summed("t0", [], [0, 0, 9])]
        for at in range(1, 40):
            rules += [summed(f"t{at}", [f"t{at - 1}"], [1, 0, 0]), summed(f"t{at}", [f"t{at - 1}"], [0, 1, 0])]
        for at in range(40, 120):
            rules += [summed(f"t{at}", [f"t{at - 1}"], [1, 0, 0]), summed(f"t{at}", [f"t{at - 1}"], [1, 1, 0])]
        program = Program(["flat", "flat", "high"], rules)
        self.tells([0] + list(range(79, 239, 2)), sure_rules, program, "t119", (100, 19, 9))
        self.tells([0] + list(range(1, 239, 2)), sure_rules, program, "t119", (119, 0, 9))

    def test_great_numbers_above_forty_amounts(self):
        rules = [("a", [], (k, 39 - k, 0), ("most", "most", "sum")) for k in range(40)]
        rules += [(f"c{at}", [(f"c{at - 1}" if at else "a", 1, (0, 0, 0))] * 4, (0, 0, 0), ("most", "most", "sum"))
                  for at in range(20)]
        rules.append(("top", [("c19", 10 ** 4, (0, 0, 0))], (10 ** 6, 10 ** 6, 10 ** 6), ("times", "times", "sum")))
        program = Program(["high"] * 3, rules)
        amount = (10 ** 6 + 10 ** 4 * 7, 10 ** 6 + 10 ** 4 * 32, 10 ** 6)
        self.tells([7] + list(range(40, 61)), sure_rules, program, "top", amount)


class Refused(Case):
    calls = (plan_of, sure_rules)

    def test_what_is_no_thing(self):
        for thing in NO_LISTS + ["x", ["a"], ("a",)]:
            if thing != "a":
                self.refuses(NoThing, "thing", thing, tops, EXAMPLE, thing)
                for call in self.calls:
                    self.refuses(NoThing, "thing", thing, call, EXAMPLE, thing, None)

    def test_what_is_no_amount_of_the_front(self):
        others = [(18, 4), (9, 6), (5,), (5, 1, 0), (5, True), (5, 2), (6, 1), (4, 1), (5, 0), (0, 0), (4, 2), [1, 5],
                  (10 ** 30, 1), ((5, 1),), [(5, 1)], [[2, 4]], "51", {(5, 1): 1}, (7, 4), (16, 2)]
        for amount in NO_AMOUNTS + others:
            for call in self.calls:
                self.refuses(NoAmount, "amount", amount, call, EXAMPLE, "a", amount)

    def test_amounts_of_plans_that_others_are_under(self):
        for amount in ((12, 6), (21, 4)):
            for call in self.calls:
                self.refuses(NoAmount, "amount", amount, call, EXAMPLE, "c", amount)

    def test_bools_are_no_integers(self):
        program = Program(["flat", "flat"], [summed("x", [], [1, 0])])
        for call in self.calls:
            for amount in ((True, 0), [1, False]):
                self.refuses(NoAmount, "amount", amount, call, program, "x", amount)

    def test_without_plans(self):
        program = Program(["flat"], [summed("x", ["y"], [0])])
        for call in self.calls:
            for amount in ((0,), [], None):
                self.refuses(NoAmount, "amount", amount, call, program, "x", amount)


if __name__ == "__main__":
    unittest.main()
