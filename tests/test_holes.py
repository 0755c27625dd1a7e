"""Promises 9.1 to 9.3, and 9.5 as far as it tells of them: holes, programs that count or fill them, what parts them."""

import unittest
from itertools import combinations, permutations
from math import gcd

from anyprice.costs import least_cost
from anyprice.dearer import never_dearer
from anyprice.errors import BadFilling, BadHoles, BadUnits, NotTimes, NoThing
from anyprice.fronts import front
from anyprice.holes import filled, holes, in_units, parting_filling, with_uses
from anyprice.hulls import hull
from anyprice.likes import alike
from anyprice.programs import Program
from helpers import (EXAMPLE, NO_INTEGERS, NO_LISTS, Case, chance_of, least_at, plain_fronts, product, rich_program)

ONE = ("times",)
# The program of the document's example 9.5.
HOLED = Program(["flat"], [("x", [("h", 2, (0,))], (0,), ONE), ("x", [], (1,), ONE), ("y", [("h", 1, (0,))], (0,), ONE),
                           ("y", [], (1,), ONE)])
# It says "sum" in the third rule, "times" and "most" in the fourth.
MIXED = Program(["high", "flat"], [
    ("a", [], (1, 1), ("times", "times")),
    ("b", [("h", 1, (0, 0))], (1, 1), ("times", "times")),
    ("c", [("h", 1, (0, 0))], (1, 1), ("times", "sum")),
    ("d", [("h", 1, (2, 0))], (1, 1), ("most", "times")),
])


def holed_program(chance, many, holed, rings=True):
    """A program that says "times" everywhere, with some holes."""
    program = rich_program(chance, 4, chance.randint(3, 6), 6, rings, ("times",), many)
    names = ["h", "k"][:holed]
    rules = [
        (head, [(chance.choice(names) if names and chance.random() < .4 else thing, times, extra)
                for thing, times, extra in parts], own, how)
        for head, parts, own, how in program.all_rules()
    ]
    return Program(program.own_sorts(), rules)


class Holes(Case):

    def test_the_example(self):
        self.tells(["h"], holes, HOLED)

    def test_others(self):
        self.tells([], holes, EXAMPLE)
        self.tells([], holes, Program(["flat"], []))
        self.tells(["h"], holes, MIXED)
        program = Program(["flat"], [("x", [("z", 1, (0,)), ("y", 1, (0,)), ("x", 1, (0,)), ("z", 1, (0,))], (0,), ("sum",))])
        self.tells(["y", "z"], holes, program)

    def test_a_thing_without_plans_is_no_hole(self):
        program = Program(["flat"], [("x", [("y", 1, (0,))], (0,), ONE), ("y", [("x", 1, (0,))], (0,), ONE)])
        self.tells([], holes, program)


class WithUses(Case):

    def test_the_example(self):
        told = self.told(with_uses, HOLED, ["h"])
        two = ("times", "times")
        self.assertEqual(told, Program(["flat", "flat"], [
            ("x", [("h", 2, (0, 0))], (0, 0), two), ("x", [], (1, 0), two), ("y", [("h", 1, (0, 0))], (0, 0), two),
            ("y", [], (1, 0), two), ("h", [], (0, 1), two)]))
        self.assertEqual(hull(told, "x"), [(0, 2), (1, 0)])
        self.assertEqual(hull(told, "y"), [(0, 1), (1, 0)])

    def test_the_order_of_names(self):
        program = Program(["high"], [("x", [("h", 2, (0,)), ("k", 3, (0,))], (5,), ONE)])
        for names in (["h", "k"], ["k", "h"]):
            told = self.told(with_uses, program, names)
            self.assertEqual(told.own_sorts(), ["high", "flat", "flat"])
            self.assertEqual([rule[0] for rule in told.all_rules()], ["x"] + names)
            self.assertEqual([rule[2] for rule in told.all_rules()], [(5, 0, 0), (0, 1, 0), (0, 0, 1)])
            self.assertEqual(front(told, "x"), [(5, 2, 3) if names == ["h", "k"] else (5, 3, 2)])
        self.assertEqual(front(with_uses(program, ["h"]), "x"), [])
        self.assertEqual(front(with_uses(program, ["h"]), "h"), [(0, 1)])

    def test_no_names(self):
        for program in (HOLED, Program(["flat", "high", "flat"], [])):
            self.tells(program, with_uses, program, [])

    def test_errors(self):
        for names in NO_LISTS:
            self.refuses(BadHoles, "index", 0, with_uses, HOLED, names)
        program = Program(["flat"], [("x", [("h", 1, (0,)), ("k", 1, (0,)), ("l", 1, (0,))], (0,), ONE)])
        for bad in NO_LISTS + [[], ["h"], ("k",), "x", "z", "H", "h"]:
            with self.assertRaises(BadHoles) as caught:
                with_uses(program, ["h", bad, "h"])
            self.assertEqual(caught.exception.index, 1)
        self.refuses(BadHoles, "index", 2, with_uses, program, ["h", "k", "l"])
        self.refuses(BadHoles, "index", 2, with_uses, program, ["l", "h", "x"])
        self.refuses(BadHoles, "index", 0, with_uses, program, ["x", "h", "h"])
        for many in (2, 3):
            wide = Program(["flat"] * many, [("x", [("h", 1, (0,) * many), ("k", 1, (0,) * many)], (0,) * many, ONE * many)])
            self.refuses(BadHoles, "index", 3 - many, with_uses, wide, ["h", "k"])

    def test_not_times_is_ahead_of_all_else(self):
        for names in (None, [], ["h"], ["x"], ["h", "h"]):
            self.refuses(NotTimes, "number", 2, with_uses, MIXED, names)


class Filled(Case):

    def test_the_example(self):
        for often in range(4):
            told = self.told(filled, HOLED, [("h", [], (often,), ONE)])
            self.assertEqual(told, HOLED.with_rule(4, ("h", [], (often,), ONE)))
            expected = min(often, 1)
            self.assertEqual([least_cost(told, thing, (1,)) for thing in "xy"], [expected, expected])

    def test_no_rules(self):
        self.tells(HOLED, filled, HOLED, [])

    def test_new_things_and_the_hole_again(self):
        rules = [("h", [("h", 1, (0,)), ("new", 2, (0,))], (1,), ONE), ("new", [("x", 1, (0,))], (0,), ONE),
                 ("h", [("lost", 1, (0,))], (0,), ONE), ("h", [], (9,), ONE)]
        told = self.told(filled, HOLED, rules)
        self.assertEqual(len(told), 8)
        self.assertEqual(holes(told), ["lost"])
        self.assertEqual(plain_fronts(told), {thing: front(told, thing) for thing in told.things()})

    def test_the_fact(self):
        chance = chance_of(92)
        counted = 0
        for _ in range(250):
            program = holed_program(chance, chance.randint(1, 2), 1)
            if holes(program) != ["h"]:
                continue
            counted += 1
            uses = plain_fronts(with_uses(program, ["h"]))
            many = len(program.own_sorts())
            how = ONE * many
            rules = [("h", [(chance.choice(program.things() + ["new"]), chance.randint(1, 2), (0,) * many)
                            for _ in range(chance.randint(0, 2))],
                      [chance.randint(0, 4) for _ in range(many)], how) for _ in range(chance.randint(0, 3))]
            rules.append(("new", [], [chance.randint(0, 3) for _ in range(many)], how))
            told = plain_fronts(filled(program, rules))
            for _ in range(3):
                prices = [chance.randint(1, 5) for _ in range(many)]
                dear = least_at(told["h"], prices)
                for thing in program.things():
                    costs = [product(row, prices) + (row[-1] * dear if row[-1] else 0) for row in uses[thing]
                             if dear is not None or row[-1] == 0]
                    self.assertEqual(least_at(told[thing], prices), min(costs, default=None))
        self.assertGreater(counted, 60)

    def test_errors(self):
        for rules in NO_LISTS:
            self.refuses(BadFilling, "index", 0, filled, HOLED, rules)
        good = ("h", [], (3,), ONE)
        bad = NO_LISTS + [
            [], (), good[:3], [("h", [], (3,), ONE)], ("h", [], (3, 3), ONE), ("h", [], (3,), ("sum",)), ("x", [], (3,), ONE),
            ("y", [], (3,), ONE), ("h", [], (3,), ("most",)), ("H", [], (3,), ONE), ("h", [("x", 0, (0,))], (3,), ONE),
            ("h", [("x", 1, (1,))], (3,), ONE), ("h", [], (True,), ONE), ("h", [], (-1,), ONE), ("h", [], (3,), "times"),
        ]
        for rule in bad:
            self.refuses(BadFilling, "index", 1, filled, HOLED, [good, rule, rule])
        high = Program(["high"], [("x", [("h", 1, (0,))], (0,), ONE)])
        self.refuses(BadFilling, "index", 0, filled, high, [("h", [], (3,), ("most",))])
        # A head may come in several of the further rules.
        self.assertEqual(len(filled(HOLED, [good, good])), 6)

    def test_not_times_is_ahead_of_all_else(self):
        for rules in (None, [], [3], [("a", [], (1, 1), ("times", "times"))]):
            self.refuses(NotTimes, "number", 2, filled, MIXED, rules)


class InUnits(Case):

    def test_units(self):
        program = Program(["flat", "high"], [("x", [("h", 3, (0, 0))], (2, 5), ONE * 2), ("y", [], (0, 1), ONE * 2)])
        self.tells(program, in_units, program, 1)
        self.tells(Program(["flat", "high"], [("x", [("h", 3, (0, 0))], (14, 35), ONE * 2), ("y", [], (0, 7), ONE * 2)]),
                   in_units, program, 7)
        self.assertEqual(in_units(program, 10 ** 18).all_rules()[1][2], (0, 10 ** 18))

    def test_errors(self):
        for units in NO_INTEGERS + [0, -1, -10 ** 20, [2]]:
            self.refuses(BadUnits, "units", units, in_units, HOLED, units)
            self.refuses(NotTimes, "number", 2, in_units, MIXED, units)
        self.refuses(NotTimes, "number", 2, in_units, MIXED, 2)


class Parting(Case):

    def check(self, program, one, other, names):
        """That two things are filled so that they have unlike costs exactly if they are not alike with uses."""
        told = self.told(parting_filling, program, one, other, names)
        same = alike(with_uses(program, names), one, other, "prices")
        self.assertEqual(told is None, same)
        if told is None:
            return
        self.assertIs(type(told), tuple)
        units, amounts, prices = told
        many = len(program.own_sorts())
        self.assertIs(type(units), int)
        self.assertGreater(units, 0)
        self.assertIs(type(amounts), tuple)
        self.assertEqual([type(amount) for amount in amounts], [tuple] * len(names))
        self.assertIs(type(prices), tuple)
        self.assertEqual(len(prices), many)
        self.assertGreater(min(prices), 0)
        self.assertEqual(gcd(*prices), 1)
        rules = [(name, (), amount, ONE * many) for name, amount in zip(names, amounts)]
        house = filled(in_units(program, units), rules)
        self.assertNotEqual(least_cost(house, one, prices), least_cost(house, other, prices))

    def test_the_example(self):
        self.check(HOLED, "x", "y", ["h"])
        self.check(HOLED, "y", "x", ["h"])
        for units, amounts, prices in (parting_filling(HOLED, "x", "y", ["h"]), (2, ((1,),), (1,))):
            house = filled(in_units(HOLED, units), [("h", (), amounts[0], ONE)])
            self.assertNotEqual(*[least_cost(house, thing, prices) for thing in "xy"])

    def test_units_are_needed(self):
        # Without them both cost the same, whatever is put in.
        for own in range(6):
            house = filled(HOLED, [("h", (), (own,), ONE)])
            for price in (1, 2, 3, 10):
                self.assertEqual(*[least_cost(house, thing, (price,)) for thing in "xy"])

    def test_alike_ones(self):
        self.tells(None, parting_filling, HOLED, "x", "x", ["h"])
        self.tells(None, parting_filling, HOLED, "h", "h", ["h"])
        program = Program(["flat"], [("x", [("h", 1, (0,))], (1,), ONE), ("y", [("x", 1, (0,))], (0,), ONE),
                                     ("z", [("k", 1, (0,))], (1,), ONE)])
        for names in ([], ["h"], ["k"], ["h", "k"], ["k", "h"]):
            self.tells(None, parting_filling, program, "x", "y", names)
            self.check(program, "x", "z", names)
            self.check(program, "h", "k", names)
        self.tells(None, parting_filling, program, "x", "z", [])

    def test_without_names(self):
        program = Program(["flat", "flat"], [("x", [], (6, 2), ONE * 2), ("y", [], (2, 6), ONE * 2), ("x", [], (2, 6), ONE * 2)])
        self.check(program, "x", "y", [])
        self.check(program, "y", "x", ())

    def test_by_chance(self):
        chance = chance_of(93)
        counts = {True: 0, False: 0}
        for _ in range(120):
            program = holed_program(chance, chance.randint(1, 2), 2)
            known = holes(program)
            for many in range(min(len(known), 3 - len(program.own_sorts())) + 1):
                for names in permutations(known, many):
                    for one, other in list(combinations(program.things(), 2))[:5]:
                        counts[parting_filling(program, one, other, names) is None] += 1
                        self.check(program, one, other, list(names))
        self.assertGreater(min(counts.values()), 100)

    def test_whatever_is_put_in(self):
        # Alike with uses: the same costs in all filled programs; never dearer there: in none of these.
        chance = chance_of(933)
        counted = [0, 0]
        for _ in range(300):
            program = holed_program(chance, chance.choice([1, 1, 2]), 1)
            if "h" not in holes(program):
                continue
            counting = with_uses(program, ["h"])
            many = len(program.own_sorts())
            house = filled(program, [
                ("h", [(chance.choice(program.things()), 1, (0,) * many)] * chance.randint(0, 1),
                 [chance.randint(0, 3) for _ in range(many)], ONE * many) for _ in range(2)])
            prices = [chance.randint(1, 4) for _ in range(many)]
            for one, other in permutations(program.things(), 2):
                costs = [least_cost(house, thing, prices) for thing in (one, other)]
                if alike(counting, one, other, "prices"):
                    counted[0] += 1
                    self.assertEqual(*costs)
                if never_dearer(counting, one, other, "prices"):
                    counted[1] += 1
                    self.assertTrue(costs[1] is None or (costs[0] is not None and costs[0] <= costs[1]))
        self.assertGreater(min(counted), 100)

    def test_errors(self):
        for thing in NO_LISTS + [[], ["x"], "z", "X"]:
            self.refuses(NoThing, "thing", thing, parting_filling, HOLED, thing, "none", ["x"])
            self.refuses(NoThing, "thing", thing, parting_filling, HOLED, "x", thing, ["x"])
            self.refuses(NotTimes, "number", 2, parting_filling, MIXED, thing, "b", [])
        for names in NO_LISTS:
            self.refuses(BadHoles, "index", 0, parting_filling, HOLED, "x", "y", names)
        self.refuses(BadHoles, "index", 1, parting_filling, HOLED, "x", "x", ["h", "h"])
        self.refuses(BadHoles, "index", 0, parting_filling, HOLED, "x", "x", ["x"])
        self.refuses(NotTimes, "number", 2, parting_filling, MIXED, "a", "b", ["a"])


if __name__ == "__main__":
    unittest.main()
