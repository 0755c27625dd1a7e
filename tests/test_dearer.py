"""Promise 8.5, and 8.8 as far as it tells of it: papers for what never is dearer, and where others are."""

import unittest
from itertools import permutations
from math import gcd

from anyprice.costs import least_cost
from anyprice.dearer import dearer_at, is_paper, never_dearer, paper_for
from anyprice.errors import BadKind, NoThing
from anyprice.levels import seen, topped
from anyprice.likes import alike
from anyprice.mixes import is_mix, mix_for, mix_sum
from anyprice.ratios import most_times
from helpers import (EXAMPLE, NO_KINDS, NO_LISTS, Case, bare_program, bowl, chance_of, flat_front, is_at_most, parted,
                     plain_seen, rich_program, some_front)
from test_levels import FLATS, ISLANDS, sorts_of, surrounded
from test_likes import KINDS

GREAT = 10 ** 18
calls = (paper_for, never_dearer, dearer_at)


def stands_under(sorts, mix, amount, kind):
    """Whether a mix stands under an amount, straight from the words of the document."""
    if kind == "budgets":
        return len(mix) == 1 and is_at_most(list(mix)[0], amount)
    if kind == "around":
        if not all(is_at_most(parted(sorts, row, "high"), parted(sorts, amount, "high")) for row in mix):
            return False
    row, total = mix_sum(mix)
    limits = tuple(number * total for number in amount)
    if kind == "around":
        row, limits = parted(sorts, row, "flat"), parted(sorts, limits, "flat")
    return is_at_most(row, limits)


def plain_has_mix(sorts, amounts, amount, kind):
    """Whether some mix of amounts stands under the amount."""
    if kind == "budgets":
        return any(is_at_most(row, amount) for row in amounts)
    if kind == "around":
        amounts = [row for row in amounts if is_at_most(parted(sorts, row, "high"), parted(sorts, amount, "high"))]
        amounts, amount = [parted(sorts, row, "flat") for row in amounts], parted(sorts, amount, "flat")
    return amount in amounts or (amount != () and mix_for(amount, amounts) is not None)


class Papers(Case):

    def check(self, program, one, other):
        """That one never is dearer by the kinds that are told, with papers; and is by the others, as is shown."""
        found = []
        for kind in KINDS:
            paper = self.told(paper_for, program, one, other, kind)
            apart = self.told(dearer_at, program, one, other, kind)
            self.assertEqual([paper, apart].count(None), 1)
            self.tells(paper is not None, never_dearer, program, one, other, kind)
            if paper is None:
                self.check_apart(program, one, other, kind, apart)
            else:
                self.check_paper(program, one, other, kind, paper)
                found.append(kind)
        self.assertIn(found, [[], ["prices"], ["prices", "around"], list(KINDS)])
        return found

    def check_paper(self, program, one, other, kind, paper):
        sorts = program.own_sorts()
        mine, its = seen(program, one, kind), seen(program, other, kind)
        most = {"prices": len(sorts), "around": max(1, sorts.count("flat")), "budgets": 1}[kind]
        self.assertEqual(list(paper), its)
        for amount, mix in paper.items():
            self.assertIs(is_mix(mix), True)
            self.assertEqual(list(mix), sorted(mix))
            self.assertTrue(1 <= len(mix) <= most and set(mix) <= set(mine))
            self.assertTrue(stands_under(sorts, mix, amount, kind))
        self.tells(True, is_paper, program, one, other, kind, paper)
        turned = {amount: {row: 3 * mix[row] for row in reversed(mix)} for amount, mix in reversed(paper.items())}
        self.assertIs(is_paper(program, one, other, kind, turned), True)

    def check_apart(self, program, one, other, kind, apart):
        sorts = program.own_sorts()
        mine, its = seen(program, one, kind), seen(program, other, kind)
        bare = [amount for amount in its if not plain_has_mix(sorts, mine, amount, kind)]
        self.assertIs(type(apart), tuple)
        if kind == "budgets":
            self.assertEqual(apart, bare[0])
        elif kind == "prices":
            self.check_dearer(program, one, other, apart)
        else:
            bounds, prices = apart
            self.assertEqual(bounds, min(parted(sorts, amount, "high") for amount in bare))
            self.assertIs(type(bounds), tuple)
            both = topped(topped(program, "one-top", one, bounds), "other-top", other, bounds)
            self.check_dearer(both, "one-top", "other-top", prices)

    def check_dearer(self, program, one, other, prices):
        self.assertIs(type(prices), tuple)
        self.assertGreater(min(prices), 0)
        self.assertEqual(gcd(*prices), 1)
        costs = [least_cost(program, thing, prices) for thing in (one, other)]
        self.assertIsNotNone(costs[1])
        self.assertTrue(costs[0] is None or costs[0] > costs[1])

    def test_the_example(self):
        self.tells((2, 2, 2), dearer_at, ISLANDS, "z", "x", "budgets")
        self.tells(None, dearer_at, ISLANDS, "x", "z", "budgets")
        found = {pair: self.check(ISLANDS, *pair) for pair in permutations("xyz", 2)}
        self.assertEqual(found["x", "z"], list(KINDS))
        self.assertEqual(found["z", "x"], ["prices", "around"])
        self.assertEqual(found["x", "y"], list(KINDS))
        self.assertEqual(found["y", "x"], ["prices"])
        self.assertEqual(dearer_at(ISLANDS, "y", "x", "around")[0], (1,))

    def test_a_thing_with_itself(self):
        paper = self.told(paper_for, ISLANDS, "x", "x", "budgets")
        self.assertEqual(paper, {row: {row: 1} for row in seen(ISLANDS, "x", "budgets")})
        for program, thing in ((ISLANDS, "y"), (EXAMPLE, "c"), (bare_program(["flat"], {"x": []}), "x")):
            self.assertEqual(self.check(program, thing, thing), list(KINDS))

    def test_without_plans(self):
        for sorts in sorts_of(2) + sorts_of(1):
            many = len(sorts)
            program = bare_program(sorts, {"x": [(3,) * many], "y": [], "z": []})
            self.assertEqual(self.check(program, "x", "y"), list(KINDS))
            self.assertEqual(self.check(program, "y", "z"), list(KINDS))
            self.assertEqual(self.check(program, "y", "x"), [])
            for kind in KINDS:
                self.tells({}, paper_for, program, "x", "y", kind)
                self.tells(None, paper_for, program, "y", "x", kind)
                self.tells(True, is_paper, program, "x", "y", kind, {})
                self.tells(False, is_paper, program, "y", "x", kind, {})
                self.tells(False, is_paper, program, "x", "y", kind, {(3,) * many: {(3,) * many: 1}})
            self.tells((3,) * many, dearer_at, program, "y", "x", "budgets")
            self.assertEqual(dearer_at(program, "y", "x", "around")[0], (3,) * sorts.count("high"))

    def test_mixes_for_prices_and_around(self):
        program = bare_program(FLATS, {"x": [(0, 6, 1), (6, 0, 1), (9, 9, 0)], "y": [(3, 4, 1)], "z": [(3, 3, 0)]})
        self.assertEqual(self.check(program, "x", "y"), ["prices", "around"])
        self.assertEqual(self.check(program, "x", "z"), [])
        self.assertEqual(dearer_at(program, "x", "z", "around")[0], (0,))
        program = bare_program(FLATS, {"x": [(0, 6, 0), (6, 0, 4)], "y": [(3, 3, 2)]})
        self.assertEqual(self.check(program, "x", "y"), ["prices"])
        self.assertEqual(dearer_at(program, "x", "y", "around")[0], (2,))

    def test_two_amounts_with_the_same_flat_row(self):
        program = bare_program(("flat", "high", "high"), {"x": [(2, 0, 5), (2, 5, 0)], "y": [(2, 5, 5)], "z": [(3, 4, 4)]})
        self.assertEqual(self.check(program, "x", "y"), list(KINDS))
        self.assertEqual(self.check(program, "x", "z"), ["prices"])
        self.assertEqual(dearer_at(program, "x", "z", "around")[0], (4, 4))

    def test_no_flat_resource(self):
        program = bare_program(("high", "high"), {"x": [(0, 6), (6, 0)], "y": [(3, 3)], "z": [(7, 1), (1, 8)]})
        self.assertEqual(self.check(program, "x", "y"), ["prices"])
        self.assertEqual(self.check(program, "x", "z"), list(KINDS))
        self.assertEqual(dearer_at(program, "x", "y", "around")[0], (3, 3))
        self.assertEqual(dearer_at(program, "y", "x", "around")[0], (0, 6))

    def test_what_never_is_dearer_by_one_kind_is_so_by_the_next(self):
        chance = chance_of(85)
        met = {}
        for _ in range(100):
            sorts = chance.choice(sorts_of(chance.randint(1, 3)) + list(permutations(FLATS)))
            others = chance.choice([some_front, flat_front, flat_front])(chance, len(sorts), 8, chance.choice([2, 5]))
            kept = plain_seen(sorts, others, chance.choice(["prices", "around", "around"]))
            ones = [row for row in others if row in kept or chance.random() < 0.1]
            if chance.random() < 0.3:
                others = [tuple(max(0, number + chance.choice([-1, 0, 1, 1])) for number in row) for row in others]
            program = bare_program(sorts, {"x": ones, "y": others})
            found = self.check(program, "x", "y")
            back = self.check(program, "y", "x")
            for kind in KINDS:
                if kind in found and kind in back:
                    self.assertIs(alike(program, "x", "y", kind), True)
            if others:
                times = most_times(program, "x", "y")
                self.assertEqual("prices" in found, times is not None and times[0] <= times[1])
            met[len(found)] = met.get(len(found), 0) + 1
        self.assertTrue(all(met.get(many, 0) > 0 for many in range(4)), met)

    def test_programs_by_chance(self):
        chance = chance_of(851)
        for _ in range(40):
            program = rich_program(chance, 4, 4, 3)
            self.check(program, chance.choice(program.things()), chance.choice(program.things()))

    def test_in_any_surrounding(self):
        chance = chance_of(852)
        met = 0
        for _ in range(80):
            ones = flat_front(chance, 3, 8, 4)
            others = [tuple(number + chance.choice([0, 0, 0, 1]) for number in row) for row in ones if chance.random() < 0.6]
            program = bare_program(FLATS, {"x": ones, "y": others})
            if never_dearer(program, "x", "y", "around"):
                rules = [("s0", [("here", 2, (0, 0, chance.randint(0, 3))), ("here", 1, (0, 0, 0))], (1, 0, chance.randint(0, 4)),
                          ("times", "sum", "most")),
                         ("s1", [("s0", 1, (0, 0, 0)), ("here", 3, (0, 0, 0))], (0, 1, 0), ("sum", "times", "sum"))]
                both = [surrounded(program, thing, rules) for thing in "xy"]
                for prices in ((1, 1, 1), (1, 2, 30), (30, 1, 2), (5, 30, 1)):
                    costs = [least_cost(around, "s1", prices) for around in both]
                    self.assertTrue(costs[1] is None or costs[0] <= costs[1])
                met += others != []
        self.assertGreater(met, 10)

    def test_forty_great_amounts(self):
        amounts = bowl(chance_of(853), 3, 40)
        others = [tuple(number + 1 for number in row) for row in amounts]
        for sorts in (("flat",) * 3, FLATS, ("high", "flat", "high"), ("high",) * 3):
            program = bare_program(sorts, {"x": amounts, "y": others})
            for kind in KINDS:
                paper = paper_for(program, "x", "y", kind)
                self.assertIs(is_paper(program, "x", "y", kind, paper), True)
                self.assertTrue(all(stands_under(sorts, paper[row], row, kind) for row in others))
                self.assertIsNone(paper_for(program, "y", "x", kind))
                self.check_apart(program, "y", "x", kind, dearer_at(program, "y", "x", kind))
        self.tells(None, dearer_at, program, "x", "y", "prices")


class IsPaper(Case):
    prices = {(1, 3, 2): {(1, 3, 2): 1}, (3, 1, 2): {(3, 1, 2): 5}, (4, 4, 0): {(4, 4, 0): 1}}

    def test_papers(self):
        self.tells(True, is_paper, ISLANDS, "x", "y", "prices", self.prices)
        around = dict(self.prices, **{})
        around[(3, 3, 1)] = {(3, 3, 1): 2}
        self.assertIs(is_paper(ISLANDS, "x", "z", "around", around), True)
        self.assertIs(is_paper(ISLANDS, "x", "y", "around", around), False)
        self.assertIs(is_paper(ISLANDS, "x", "z", "prices", around), False)

    def test_long_mixes(self):
        amounts = [(k, 9 - k) for k in (0, 3, 6, 9)]
        program = bare_program(["flat", "flat"], {"x": amounts[::3], "y": [(4, 6)], "z": amounts})
        self.assertIs(is_paper(program, "x", "y", "prices", {(4, 6): {(0, 9): 4, (9, 0): 3}}), True)
        self.assertIs(is_paper(program, "x", "y", "prices", {(4, 6): {(0, 9): 1, (9, 0): 1}}), False)
        program = bare_program(["high", "flat", "flat"], {"x": [(1, *row) for row in [(0, 9), (2, 6), (6, 2), (9, 0)]],
                                                          "y": [(1, 5, 5)]})
        for mix, expected in (({(1, 0, 9): 1, (1, 2, 6): 1, (1, 6, 2): 1, (1, 9, 0): 1}, True), ({(1, 2, 6): 1}, False),
                              ({(1, 2, 6): 1, (1, 6, 2): 1}, True), ({(1, 0, 9): 9, (1, 6, 2): 1}, False)):
            for kind in ("prices", "around"):
                self.tells(expected, is_paper, program, "x", "y", kind, {(1, 5, 5): mix})
            self.tells(False, is_paper, program, "x", "y", "budgets", {(1, 5, 5): mix})

    def test_by_budgets_one_amount_alone_whatever_its_weight(self):
        program = bare_program(["flat", "flat"], {"x": [(1, 2), (2, 1)], "y": [(2, 2)]})
        for mix, expected in (({(1, 2): 1}, True), ({(2, 1): GREAT}, True), ({(1, 2): 1, (2, 1): 1}, False), ({}, False),
                              ({(2, 2): 1}, False), ({(1, 2): 0}, False), ({(1, 2): True}, False)):
            self.tells(expected, is_paper, program, "x", "y", "budgets", {(2, 2): mix})

    def test_around_each_one_is_within_the_high_numbers(self):
        program = bare_program(FLATS, {"x": [(0, 6, 0), (6, 0, 4)], "y": [(3, 3, 2)], "z": [(3, 3, 4)]})
        mix = {(0, 6, 0): 1, (6, 0, 4): 1}
        for kind, thing, row, expected in (("prices", "y", (3, 3, 2), True), ("around", "y", (3, 3, 2), False),
                                           ("prices", "z", (3, 3, 4), True), ("around", "z", (3, 3, 4), True)):
            self.tells(expected, is_paper, program, "x", thing, kind, {row: mix})

    def test_no_flat_resource(self):
        program = bare_program(("high", "high"), {"x": [(0, 6), (6, 0)], "y": [(6, 6)]})
        for kind, expected in (("prices", True), ("around", True), ("budgets", False)):
            self.tells(expected, is_paper, program, "x", "y", kind, {(6, 6): {(0, 6): 1, (6, 0): 3}})

    def test_amounts_that_are_not_seen(self):
        # (2, 2, 2) is in the front, not in the view; (3, 3, 1) in the view, not in the hull.
        for kind, row in (("prices", (3, 3, 1)), ("prices", (2, 2, 2)), ("around", (2, 2, 2))):
            paper = {amount: {amount: 1} for amount in seen(ISLANDS, "x", kind)}
            self.tells(True, is_paper, ISLANDS, "x", "x", kind, paper)
            self.tells(False, is_paper, ISLANDS, "x", "x", kind, dict(sorted([*paper.items(), (row, {row: 1})])))
            paper[(4, 4, 0)] = {(4, 4, 0): 1, row: 1}
            self.assertIs(is_paper(ISLANDS, "x", "x", kind, paper), False)
        paper = {amount: {amount: 1} for amount in seen(ISLANDS, "x", "budgets")}
        self.tells(True, is_paper, ISLANDS, "x", "x", "budgets", paper)

    def test_any_other_object(self):
        for thing in NO_LISTS + [[], (), [self.prices], list(self.prices), list(self.prices.items())]:
            self.tells(False, is_paper, ISLANDS, "x", "y", "prices", thing)

    def test_other_keys_and_worths(self):
        for row in self.prices:
            rest = {amount: mix for amount, mix in self.prices.items() if amount != row}
            self.tells(False, is_paper, ISLANDS, "x", "y", "prices", rest)
            for key in (row[:2], row + (0,), (0, 0, 0), "a", 1, None, True, (row,), (row[0] + 1, *row[1:])):
                self.assertIs(is_paper(ISLANDS, "x", "y", "prices", {**rest, key: self.prices[row]}), False)
            for mix in NO_LISTS + [[], row, [row], {row: 0}, {row: -1}, {row: True}, {row: "1"}, {row[:2]: 1}, {"a": 1},
                                   {(0, 0, 0): 1}, {row: 1, (0, 0, 0): 1}]:
                self.assertIs(is_paper(ISLANDS, "x", "y", "prices", {**rest, row: mix}), False)

    def test_bools_are_no_integers(self):
        program = bare_program(["flat", "flat"], {"x": [(1, 0)]})
        for kind in KINDS:
            self.assertIs(is_paper(program, "x", "x", kind, {(1, 0): {(1, 0): 1}}), True)
            for key, part in (((True, 0), (1, 0)), ((1, False), (1, 0)), ((1, 0), (True, 0)), ((1, 0), (1, False))):
                self.assertIs(is_paper(program, "x", "x", kind, {key: {part: 1}}), False)

    def test_just_below_and_just_above(self):
        third = GREAT // 3
        program = bare_program(["flat"] * 3, {"x": [(GREAT, 0, 0), (0, GREAT, 0), (0, 0, GREAT)], "y": [(third, third, third + 1)],
                                              "z": [(third, third, third)]})
        mix = {(0, 0, GREAT): 1, (0, GREAT, 0): 1, (GREAT, 0, 0): 1}
        self.tells(False, is_paper, program, "x", "y", "prices", {(third, third, third + 1): mix})
        self.tells(False, is_paper, program, "x", "z", "prices", {(third, third, third): mix})
        mix = {(0, 0, GREAT): third + 1, (0, GREAT, 0): third, (GREAT, 0, 0): third}
        self.tells(True, is_paper, program, "x", "y", "prices", {(third, third, third + 1): mix})
        self.tells(None, dearer_at, program, "x", "y", "prices")
        self.tells((1, 1, 1), dearer_at, program, "x", "z", "prices")


class Refused(Case):

    def test_what_is_no_thing(self):
        for thing in NO_LISTS + ["x", ["a"], ("a",)]:
            if thing != "a":
                for call in calls:
                    self.refuses(NoThing, "thing", thing, call, EXAMPLE, thing, None, None)
                    self.refuses(NoThing, "thing", thing, call, EXAMPLE, "a", thing, None)
                self.refuses(NoThing, "thing", thing, is_paper, EXAMPLE, thing, None, None, None)
                self.refuses(NoThing, "thing", thing, is_paper, EXAMPLE, "a", thing, None, None)

    def test_what_is_no_kind(self):
        for kind in NO_KINDS:
            for call in calls:
                self.refuses(BadKind, "kind", kind, call, EXAMPLE, "a", "b", kind)
            self.refuses(BadKind, "kind", kind, is_paper, EXAMPLE, "a", "b", kind, {})


if __name__ == "__main__":
    unittest.main()
