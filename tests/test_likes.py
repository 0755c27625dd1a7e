"""Promise 8.4, and 8.8 as far as it tells of it: alike things, and what parts others."""

import unittest
from itertools import permutations, product as all_of
from math import gcd

from anyprice.costs import least_cost
from anyprice.errors import BadKind, NoThing
from anyprice.levels import level, topped
from anyprice.likes import alike, parting
from anyprice.programs import Program
from helpers import (EXAMPLE, NO_KINDS, NO_LISTS, Case, bare_program, bowl, chance_of, flat_front, is_at_most, least_at,
                     parted, plain_fronts, plain_level, plain_seen, rich_program, some_front)
from test_levels import FIVE, FLATS, ISLANDS, sorts_of

KINDS = ("prices", "around", "budgets")
GREAT = 10 ** 18


class Alike(Case):

    def check(self, program, one, other):
        """That what parts two things does so, shown by sums; the kinds by which they are alike."""
        sorts = program.own_sorts()
        fronts = plain_fronts(program)
        found = []
        for kind in KINDS:
            same = plain_seen(sorts, fronts[one], kind) == plain_seen(sorts, fronts[other], kind)
            self.tells(same, alike, program, one, other, kind)
            apart = self.told(parting, program, one, other, kind)
            if same:
                self.assertIsNone(apart)
                found.append(kind)
            elif kind == "prices":
                self.check_prices(program, one, other, apart)
            elif kind == "around":
                self.check_around(program, fronts, one, other, apart)
            else:
                self.check_budget(fronts[one], fronts[other], apart)
        self.assertIn(found, [[], ["prices"], ["prices", "around"], ["prices", "around", "budgets"]])
        return found

    def check_prices(self, program, one, other, prices):
        self.assertIs(type(prices), tuple)
        self.assertEqual(len(prices), len(program.own_sorts()))
        self.assertGreater(min(prices), 0)
        self.assertEqual(gcd(*prices), 1)
        self.assertNotEqual(least_cost(program, one, prices), least_cost(program, other, prices))

    def check_around(self, program, fronts, one, other, apart):
        self.assertIs(type(apart), tuple)
        bounds, prices = apart
        self.assertIs(type(bounds), tuple)
        sorts = program.own_sorts()
        columns = zip(*[parted(sorts, row, "high") for row in fronts[one] + fronts[other]])
        for earlier in all_of(*[sorted(set(column)) for column in columns]):
            levels = [plain_level(sorts, fronts[thing], earlier) for thing in (one, other)]
            if levels[0] != levels[1]:
                self.assertEqual(bounds, earlier)
                break
        self.assertNotEqual(level(program, one, bounds), level(program, other, bounds))
        both = topped(topped(program, "one-top", one, bounds), "other-top", other, bounds)
        self.check_prices(both, "one-top", "other-top", prices)

    def check_budget(self, ones, others, row):
        for earlier in sorted(ones + others):
            had = [any(is_at_most(amount, earlier) for amount in amounts) for amounts in (ones, others)]
            if had[0] != had[1]:
                self.assertEqual(row, earlier)
                self.assertIs(type(row), tuple)
                return
        self.fail("they are alike")

    def test_the_example(self):
        self.tells(True, alike, ISLANDS, "x", "y", "prices")
        self.tells(False, alike, ISLANDS, "x", "y", "around")
        self.tells(True, alike, ISLANDS, "x", "z", "around")
        self.tells(False, alike, ISLANDS, "x", "z", "budgets")
        self.tells((2, 2, 2), parting, ISLANDS, "x", "z", "budgets")
        self.tells((2, 2, 2), parting, ISLANDS, "z", "x", "budgets")
        self.assertEqual(parting(ISLANDS, "x", "y", "around")[0], (1,))
        both = topped(topped(ISLANDS, "tx", "x", (1,)), "ty", "y", (1,))
        self.assertEqual([least_cost(both, head, (1, 1, 3)) for head in ("tx", "ty")], [9, 10])
        self.assertEqual(self.check(ISLANDS, "x", "y"), ["prices"])
        self.assertEqual(self.check(ISLANDS, "x", "z"), ["prices", "around"])

    def test_a_thing_with_itself(self):
        for program, thing in ((ISLANDS, "x"), (EXAMPLE, "c"), (bare_program(["flat"], {"x": []}), "x")):
            self.assertEqual(self.check(program, thing, thing), list(KINDS))

    def test_without_plans(self):
        for sorts in sorts_of(2):
            program = bare_program(sorts, {"x": [(3, 4), (4, 3)], "y": [], "z": []})
            self.assertEqual(self.check(program, "y", "z"), list(KINDS))
            self.assertEqual(self.check(program, "x", "y"), [])
            self.assertEqual(self.check(program, "y", "x"), [])
            self.tells((3, 4), parting, program, "x", "y", "budgets")
            bounds = {("flat", "flat"): (), ("flat", "high"): (3,), ("high", "flat"): (3,), ("high", "high"): (3, 4)}
            self.assertEqual(parting(program, "y", "x", "around")[0], bounds[sorts])

    def test_noughts(self):
        program = bare_program(["flat", "high"], {"x": [(0, 0)], "y": [(0, 1)], "z": [(1, 0)]})
        for one, other in permutations("xyz", 2):
            self.check(program, one, other)
        self.assertEqual(parting(program, "x", "z", "around")[0], (0,))

    def test_costs_that_happen_to_be_equal(self):
        # At the prices in the middle of each one's own pieces both cost the same.
        program = bare_program(["flat", "flat"], {"x": [(0, 3), (3, 0)], "y": [(0, 3), (1, 1), (3, 0)], "z": [(1, 2), (2, 1)],
                                                  "p": [(0, 4), (1, 2), (4, 0)], "q": [(0, 4), (2, 1), (4, 0)]})
        for one, other in permutations("pqxyz", 2):
            self.assertEqual(self.check(program, one, other), [])

    def test_one_resource(self):
        for sort in ("flat", "high"):
            program = bare_program([sort], {"x": [(3,)], "y": [(4,), (3,)], "z": [(4,)]})
            self.assertEqual(self.check(program, "x", "y"), list(KINDS))
            self.assertEqual(self.check(program, "x", "z"), [])
            self.tells((3,), parting, program, "z", "x", "budgets")

    def test_the_first_bounds_are_of_what_one_alone_views(self):
        # Both view (5, 1, 0); the first one alone (1, 5, 2), the other one alone (2, 2, 1).
        program = bare_program(("flat", "flat", "high"), {"x": [(5, 1, 0), (1, 5, 2)], "y": [(5, 1, 0), (2, 2, 1)]})
        self.assertEqual(parting(program, "x", "y", "around")[0], (1,))
        self.assertEqual(parting(program, "y", "x", "around")[0], (1,))
        self.check(program, "x", "y")

    def test_by_chance(self):
        chance = chance_of(841)
        met = {}
        for _ in range(100):
            sorts = chance.choice(sorts_of(chance.randint(1, 3)) + list(permutations(FLATS)))
            ones = chance.choice([some_front, flat_front, flat_front])(chance, len(sorts), 9, chance.choice([2, 5]))
            kept = plain_seen(sorts, ones, chance.choice(["prices", "around"]))
            others = [row for row in ones if row in kept or chance.random() < 0.3]
            if chance.random() < 0.2:
                others = some_front(chance, len(sorts), 4, 4)
            program = bare_program(sorts, {"x": ones, "y": others})
            found = self.check(program, "x", "y")
            self.assertEqual(self.check(program, "y", "x"), found)
            met[len(found)] = met.get(len(found), 0) + 1
        self.assertTrue(all(met.get(many, 0) > 0 for many in range(4)), met)

    def test_programs_by_chance(self):
        chance = chance_of(842)
        for _ in range(40):
            program = rich_program(chance, 4, 4, 3)
            one, other = chance.choice(program.things()), chance.choice(program.things())
            self.check(program, one, other)

    def test_forty_great_amounts(self):
        amounts = bowl(chance_of(843), 3, 40)
        for sorts in (("flat",) * 3, FLATS, ("high", "flat", "high"), ("high",) * 3):
            program = bare_program(sorts, {"x": amounts, "y": amounts[:17] + amounts[18:]})
            for kind in KINDS:
                self.assertIs(alike(program, "x", "y", kind), False)
                self.assertIs(alike(program, "y", "y", kind), True)
            self.check_prices(program, "x", "y", self.told(parting, program, "x", "y", "prices"))
            self.tells(amounts[17], parting, program, "x", "y", "budgets")
            bounds, prices = self.told(parting, program, "x", "y", "around")
            self.assertEqual(bounds, parted(sorts, amounts[17], "high"))
            both = topped(topped(program, "one-top", "x", bounds), "other-top", "y", bounds)
            self.check_prices(both, "one-top", "other-top", prices)
            self.assertEqual(least_cost(both, "one-top", prices), least_at(
                [tuple(max(number, bound) for number, bound in zip(row, both.all_rules()[-1][2])) for row in amounts], prices))


class Refused(Case):

    def test_what_is_no_thing(self):
        for call in (alike, parting):
            for thing in NO_LISTS + ["x", ["a"], ("a",)]:
                if thing != "a":
                    self.refuses(NoThing, "thing", thing, call, EXAMPLE, thing, None, None)
                    self.refuses(NoThing, "thing", thing, call, EXAMPLE, "a", thing, None)

    def test_what_is_no_kind(self):
        for call in (alike, parting):
            for kind in NO_KINDS:
                self.refuses(BadKind, "kind", kind, call, EXAMPLE, "a", "b", kind)
                self.refuses(BadKind, "kind", kind, call, EXAMPLE, "a", "a", kind)

    def test_without_plans_too(self):
        program = Program(["flat"], [("x", [("x", 1, [0])], [0], ["sum"])])
        for call in (alike, parting):
            self.refuses(BadKind, "kind", 3, call, program, "x", "x", 3)
        self.assertEqual(len(FIVE), 5)


if __name__ == "__main__":
    unittest.main()
