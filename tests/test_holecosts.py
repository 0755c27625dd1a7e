"""Promise 9.4, and 9.5 as far as it tells of it: what things cost as a hole, or a rule, gets dearer."""

import unittest
from fractions import Fraction
from itertools import combinations

from anyprice.costs import least_cost
from anyprice.errors import BadHole, BadNumber, BadPrices, NotTimes, NoThing
from anyprice.holecosts import costs_by_hole, costs_by_rule
from anyprice.holes import holes
from anyprice.programs import Program
from helpers import NO_INTEGERS, NO_LISTS, NO_PAIRS, NO_PRICES, Case, chance_of, plain_fronts, product
from test_holes import HOLED, MIXED, ONE, holed_program


def plain_lines(program, thing, prices, hole=None, number=None):
    """The triples from the front of a program of costs and uses: of all lines those that are lowest for a while."""
    two = ("times", "times")
    rules = [
        (head, [(name, times, (0, 0)) for name, times, _ in parts], (product(own, prices), int(at == number)), two)
        for at, (head, parts, own, _) in enumerate(program.all_rules())
    ]
    if hole:
        rules.append((hole, [], (0, 1), two))
    lines = plain_fronts(Program(["flat", "flat"], rules))[thing]
    crossings = {Fraction(0)}
    for one, other in combinations(lines, 2):
        place = Fraction(other[0] - one[0], one[1] - other[1])
        if place > 0:
            crossings.add(place)
    crossings = sorted(crossings)
    told = []
    for place, follower in zip(crossings, crossings[1:] + [crossings[-1] + 2]):
        middle = (place + follower) / 2
        least = min([cost + uses * middle for cost, uses in lines], default=None)
        best = [line for line in lines if line[0] + line[1] * middle == least]
        if best and (not told or told[-1][1:] != best[0]):
            told.append(((place.numerator, place.denominator), *best[0]))
    return told


class ByHole(Case):

    def test_the_example(self):
        self.tells([((0, 1), 0, 2), ((1, 2), 1, 0)], costs_by_hole, HOLED, "x", "h", (1,))
        self.tells([((0, 1), 0, 1), ((1, 1), 1, 0)], costs_by_hole, HOLED, "y", "h", (1,))

    def test_prices_with_a_common_divisor(self):
        self.tells([((0, 1), 0, 2), ((3, 1), 6, 0)], costs_by_hole, HOLED, "x", "h", (6,))

    def test_the_hole_itself_and_what_has_no_plan(self):
        self.tells([((0, 1), 0, 1)], costs_by_hole, HOLED, "h", "h", (5,))
        program = Program(["flat"], [("x", [("h", 1, (0,)), ("k", 1, (0,))], (2,), ONE), ("y", [("h", 3, (0,))], (2,), ONE),
                                     ("r", [("r", 1, (0,))], (0,), ONE), ("z", [], (4,), ONE)])
        self.tells([], costs_by_hole, program, "x", "h", (1,))
        self.tells([], costs_by_hole, program, "k", "h", (1,))
        self.tells([], costs_by_hole, program, "r", "h", (1,))
        self.tells([((0, 1), 10, 3)], costs_by_hole, program, "y", "h", (5,))
        self.tells([((0, 1), 20, 0)], costs_by_hole, program, "z", "h", (5,))

    def test_a_line_that_is_lowest_at_one_number_alone(self):
        # At 0 both ways cost 4, at once behind it the one with less uses less; (5, 2) and (7, 1) meet with (9, 0) at 2.
        program = Program(["flat"], [("x", [("h", 2, (0,))], (4,), ONE), ("x", [("h", 1, (0,))], (4,), ONE),
                                     ("y", [("h", 2, (0,))], (5,), ONE), ("y", [("h", 1, (0,))], (7,), ONE), ("y", [], (9,), ONE)])
        self.tells([((0, 1), 4, 1)], costs_by_hole, program, "x", "h", (1,))
        self.tells([((0, 1), 5, 2), ((2, 1), 9, 0)], costs_by_hole, program, "y", "h", (1,))

    def test_by_chance(self):
        chance = chance_of(94)
        long = 0
        for _ in range(250):
            program = holed_program(chance, chance.randint(1, 3), 2)
            prices = [chance.randint(1, 6) for _ in program.own_sorts()]
            for hole in holes(program):
                for thing in program.things():
                    expected = plain_lines(program, thing, prices, hole=hole)
                    self.tells(expected, costs_by_hole, program, thing, hole, prices)
                    long = max(long, len(expected))
        self.assertGreater(long, 2)

    def test_a_hole_used_a_million_times(self):
        # t19 is had of two t18 and so on: with ways of their own on each step there are many lines.
        rules = [("t0", [("h", 1, (0,))], (0,), ONE), ("t0", [], (10 ** 6,), ONE)]
        for step in range(1, 20):
            rules.append((f"t{step}", [(f"t{step - 1}", 2, (0,))], (step % 3,), ONE))
            rules.append((f"t{step}", [], (step * 10 ** 5 + 3 ** step, ), ONE))
        told = costs_by_hole(Program(["flat"], rules), "t19", "h", (1,))
        self.assertEqual(told[0][2], 2 ** 19)
        self.assertEqual(told[-1][2], 0)
        for one, other in zip(told, told[1:]):
            place = Fraction(*other[0])
            self.assertLess(Fraction(*one[0]), place)
            self.assertGreater(one[2], other[2])
            self.assertEqual(one[1] + one[2] * place, other[1] + other[2] * place)

    def test_great_numbers(self):
        great = 10 ** 18
        program = Program(["flat", "high"], [("x", [("h", 10 ** 6, (0, 0))], (0, great), ONE * 2),
                                             ("x", [], (great, great - 1), ONE * 2)])
        self.tells([((0, 1), great * 10 ** 6, 10 ** 6), ((10 ** 18 - 1, 1), great * 10 ** 6 + great * 10 ** 6 - 10 ** 6, 0)],
                   costs_by_hole, program, "x", "h", (10 ** 6, 10 ** 6))

    def test_errors(self):
        for thing in NO_LISTS + [[], ["x"], "z"]:
            self.refuses(NoThing, "thing", thing, costs_by_hole, HOLED, thing, "x", (0,))
        for hole in NO_LISTS + [[], ["h"], "z", "x", "y"]:
            self.refuses(BadHole, "hole", hole, costs_by_hole, HOLED, "x", hole, (0,))
        for prices in NO_PRICES + [(1, 1), [0], (1, 1, 1)]:
            self.refuses(BadPrices, "prices", prices, costs_by_hole, HOLED, "x", "h", prices)
        for bad in (None, "h", "a"):
            self.refuses(NotTimes, "number", 2, costs_by_hole, MIXED, bad, bad, bad)


class ByRule(Case):

    def test_the_example(self):
        self.tells([((0, 1), 3, 1)], costs_by_rule, HOLED, "x", 1, (3,))

    def test_rules_that_are_of_no_use(self):
        self.tells([((0, 1), 3, 0)], costs_by_rule, HOLED, "x", 3, (3,))
        self.tells([((0, 1), 3, 0)], costs_by_rule, HOLED, "x", 0, (3,))
        self.tells([], costs_by_rule, HOLED, "h", 0, (3,))

    def test_how_often_it_is_done(self):
        program = Program(["flat"], [("x", [("y", 3, (0,)), ("y", 2, (0,))], (1,), ONE), ("y", [("z", 4, (0,))], (0,), ONE),
                                     ("z", [], (2,), ONE), ("z", [], (5,), ONE)])
        self.tells([((0, 1), 41, 20), ((3, 1), 101, 0)], costs_by_rule, program, "x", 2, (1,))
        self.tells([((0, 1), 41, 1)], costs_by_rule, program, "x", 0, (1,))
        self.tells([((0, 1), 41, 5)], costs_by_rule, program, "x", 1, (1,))
        self.tells([((0, 1), 82, 0)], costs_by_rule, program, "x", 3, (2,))

    def test_rings(self):
        # Rule 2 stands in a ring, and below itself in no plan that is a best one.
        program = Program(["flat"], [("x", [("y", 2, (0,))], (0,), ONE), ("y", [("x", 1, (0,))], (0,), ONE),
                                     ("x", [], (3,), ONE), ("y", [], (5,), ONE)])
        self.tells([((0, 1), 3, 1), ((7, 1), 10, 0)], costs_by_rule, program, "x", 2, (1,))
        self.tells([((0, 1), 3, 1), ((2, 1), 5, 0)], costs_by_rule, program, "y", 2, (1,))

    def test_by_chance(self):
        chance = chance_of(941)
        long = 0
        for _ in range(200):
            program = holed_program(chance, chance.randint(1, 3), 1)
            prices = [chance.randint(1, 6) for _ in program.own_sorts()]
            for number in range(len(program)):
                for thing in chance.sample(program.things(), min(3, len(program.things()))):
                    expected = plain_lines(program, thing, prices, number=number)
                    self.tells(expected, costs_by_rule, program, thing, number, prices)
                    if expected:
                        self.assertEqual(least_cost(program, thing, prices), expected[0][1])
                    long = max(long, len(expected))
        self.assertGreater(long, 1)

    def test_errors(self):
        for thing in NO_LISTS + [[], ["x"], "z"]:
            self.refuses(NoThing, "thing", thing, costs_by_rule, HOLED, thing, -1, (0,))
        for number in NO_INTEGERS + [-1, 4]:
            self.refuses(BadNumber, "number", number, costs_by_rule, HOLED, "x", number, (0,))
        wide = Program(["flat", "flat"], [("x", [], (1, 1), ONE * 2)])
        for prices in NO_PAIRS:
            self.refuses(BadPrices, "prices", prices, costs_by_rule, wide, "x", 0, prices)
        self.refuses(NotTimes, "number", 2, costs_by_rule, MIXED, "z", -1, None)


if __name__ == "__main__":
    unittest.main()
