"""Promise 8.6, and 8.8 as far as it tells of it: how many times as dear."""

import unittest
from fractions import Fraction
from itertools import product as all_of

from anyprice.dearer import never_dearer
from anyprice.errors import NoPlan, NoThing
from anyprice.fronts import front
from anyprice.ratios import most_times
from helpers import (EXAMPLE, NO_LISTS, Case, bare_program, bowl, chance_of, least_at, plain_corners, plain_hull, product,
                     rich_program, some_front)
from test_levels import ISLANDS

GREAT = 10 ** 18


def plain_times(ones, others):
    """The greatest share over all corners of the pieces of one, or None, as the document says."""
    best = Fraction(0)
    for amount in plain_hull(ones):
        cuts = [[number - its for number, its in zip(amount, other)] for other in ones]
        for corner in plain_corners(len(amount), cuts):
            for other in plain_hull(others):
                mine, its = product(amount, corner), product(other, corner)
                if its > 0:
                    best = max(best, Fraction(mine, its))
                elif mine > 0:
                    return None
    return best.numerator, best.denominator


class MostTimes(Case):

    def test_the_example(self):
        self.tells((1, 1), most_times, ISLANDS, "x", "y")
        self.tells((1, 1), most_times, ISLANDS, "y", "x")

    def test_one_resource(self):
        program = bare_program(["flat"], {"x": [(6,)], "y": [(4,)], "z": [(0,)]})
        self.tells((3, 2), most_times, program, "x", "y")
        self.tells((2, 3), most_times, program, "y", "x")
        self.tells((1, 1), most_times, program, "x", "x")
        self.tells((0, 1), most_times, program, "z", "x")
        self.tells(None, most_times, program, "x", "z")
        self.tells((0, 1), most_times, program, "z", "z")

    def test_at_the_rim_alone(self):
        # Nowhere above 0 it is ten times as dear; nearer to the rim ever more nearly so.
        program = bare_program(["flat", "flat"], {"x": [(10, 1)], "y": [(1, 1)], "z": [(0, 1)]})
        self.tells((10, 1), most_times, program, "x", "y")
        self.tells((1, 1), most_times, program, "y", "x")
        self.tells(None, most_times, program, "x", "z")
        self.tells((1, 1), most_times, program, "z", "x")

    def test_noughts(self):
        program = bare_program(["flat", "high"], {"x": [(0, 3), (3, 0)], "y": [(0, 0)], "z": [(0, 2), (5, 0)], "w": [(0, 5)]})
        self.tells(None, most_times, program, "x", "y")
        self.tells((0, 1), most_times, program, "y", "x")
        self.tells((0, 1), most_times, program, "y", "y")
        self.tells((3, 2), most_times, program, "x", "z")
        self.tells((5, 3), most_times, program, "z", "x")
        self.tells((3, 5), most_times, program, "x", "w")
        self.tells(None, most_times, program, "w", "x")

    def test_between_the_corners_of_other(self):
        # The greatest share is at (1, 1), a corner of the pieces of one, where other is had for less than at the rim.
        program = bare_program(["flat", "flat"], {"x": [(0, 6), (6, 0)], "y": [(0, 6), (2, 2), (6, 0)]})
        self.tells((3, 2), most_times, program, "x", "y")
        self.tells((1, 1), most_times, program, "y", "x")

    def test_as_the_plain_way(self):
        chance = chance_of(86)
        met = set()
        for _ in range(200):
            many = chance.randint(1, 3)
            ones, others = (some_front(chance, many, chance.randint(1, 6), chance.choice([2, 5, 30])) for _ in range(2))
            program = bare_program(["flat", "high", "flat"][:many], {"x": ones, "y": others})
            told = self.told(most_times, program, "x", "y")
            self.assertEqual(told, plain_times(ones, others))
            if told is not None:
                self.assertTrue(all(type(number) is int for number in told))
                self.bounds(ones, others, Fraction(*told))
            self.assertEqual(never_dearer(program, "x", "y", "prices"), told is not None and told[0] <= told[1])
            met.add(None if told is None else told[0] > told[1])
        self.assertEqual(met, {None, True, False})

    def bounds(self, ones, others, times):
        """At all prices above 0 one costs at most so many times what other does; with less it would not."""
        greatest = Fraction(0)
        for prices in all_of((1, 2, 5, 10 ** 6), repeat=len(ones[0])):
            mine, its = least_at(ones, prices), least_at(others, prices)
            self.assertLessEqual(mine, times * its)
            greatest = max(greatest, Fraction(mine, its) if its else Fraction(0))
        self.assertLessEqual(greatest, times)

    def test_of_programs(self):
        chance = chance_of(861)
        for _ in range(40):
            program = rich_program(chance, 3, 3, 9)
            for one in program.things():
                for other in program.things():
                    if front(program, one) and front(program, other):
                        self.tells(plain_times(front(program, one), front(program, other)), most_times, program, one, other)

    def test_forty_great_amounts(self):
        for many in (2, 3):
            ones, others = bowl(chance_of(862), many, 40), bowl(chance_of(863), many, 12)
            program = bare_program(["flat"] * many, {"x": ones, "y": others})
            self.tells((1, 1), most_times, program, "x", "x")
            for one, other, mine, its in (("x", "y", ones, others), ("y", "x", others, ones)):
                told = self.told(most_times, program, one, other)
                self.bounds(mine, its, Fraction(*told))
        self.tells(plain_times(others, ones[:12]), most_times, bare_program(["flat"] * 3, {"x": ones[:12], "y": others}), "y", "x")


class Refused(Case):
    program = bare_program(["flat"], {"x": [(1,)], "y": [], "z": []})

    def test_what_is_no_thing(self):
        for thing in NO_LISTS + ["x", ["a"], ("a",)]:
            if thing != "a":
                self.refuses(NoThing, "thing", thing, most_times, EXAMPLE, thing, None)
                self.refuses(NoThing, "thing", thing, most_times, EXAMPLE, "a", thing)

    def test_things_ahead_of_plans(self):
        self.refuses(NoThing, "thing", "w", most_times, self.program, "y", "w")
        self.refuses(NoThing, "thing", "w", most_times, self.program, "w", "y")

    def test_without_plans(self):
        for one, other, thing in (("y", "x", "y"), ("x", "y", "y"), ("y", "z", "y"), ("z", "y", "z"), ("y", "y", "y")):
            self.refuses(NoPlan, "thing", thing, most_times, self.program, one, other)

    def test_the_very_object(self):
        one = "".join(["long-", "name"])
        program = bare_program(["flat"], {"long-name": []})
        self.refuses(NoPlan, "thing", one, most_times, program, one, one)


if __name__ == "__main__":
    unittest.main()
