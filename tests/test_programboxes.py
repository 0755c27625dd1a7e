"""Promise 11.6: boxes of programs."""

import unittest

from anyprice.asking import asked_through, box_hull, boxes_part
from anyprice.errors import BadBounds, BadPrices, NoThing
from anyprice.hulls import hull
from anyprice.levels import level
from anyprice.likes import alike
from anyprice.programboxes import box_of, box_within
from helpers import (EXAMPLE, NO_LISTS, NO_PRICES, Case, bare_program, bowl, chance_of, is_at_most, parted, plain_fronts, product,
                     rich_program)
from test_levels import FIVE, FLATS, ISLANDS, NO_BOUNDS


class BoxOf(Case):

    def test_the_first_that_costs_least(self):
        box = box_of(EXAMPLE, "c")
        for prices, expected in (((1, 1), (9, 6)), ((1, 5), (18, 4)), ((2, 9), (9, 6)), ((0, 1), (18, 4)), ((1, 0), (9, 6)),
                                 ([4, 18], (9, 6)), ((0, 7), (18, 4))):
            self.assertEqual(box(prices), expected)
            self.assertIs(type(box(prices)), tuple)

    def test_without_plans(self):
        program = bare_program(["flat", "high"], {"x": []})
        box = box_of(program, "x")
        self.assertIsNone(box((1, 1)))
        self.assertEqual(asked_through(box, 2), [((1, 1), None)])

    def test_prices(self):
        for program, thing in ((EXAMPLE, "a"), (bare_program(["flat", "high"], {"x": []}), "x")):
            box = box_of(program, thing)
            for prices in NO_PRICES + [(1,), [2], (1, 1, 1), (True, 1)]:
                self.refuses(BadPrices, "prices", prices, lambda prices: box(prices), prices)

    def test_the_hull(self):
        chance = chance_of(116)
        for _ in range(80):
            program = rich_program(chance, 4, 2, 6)
            fronts = plain_fronts(program)
            if max(map(len, fronts.values()), default=0) > 20:
                continue
            many = len(program.own_sorts())
            for thing in fronts:
                self.assertEqual(box_hull(box_of(program, thing), many), hull(program, thing))
                for _ in range(3):
                    prices = [chance.randint(0, 3) for _ in range(many)]
                    if any(prices):
                        best = min(fronts[thing], key=lambda row: product(row, prices), default=None)
                        self.assertEqual(box_of(program, thing)(prices), best)

    def test_two_things(self):
        program = bare_program(["flat", "flat"], {"x": [(0, 6), (3, 3), (6, 0)], "y": [(0, 6), (6, 0)], "z": [(0, 6), (5, 0)]})
        for one, other in ("xy", "xz", "yz"):
            told = boxes_part(box_of(program, one), box_of(program, other), 2)
            self.assertEqual(told is None, alike(program, one, other, "prices"))

    def test_forty_amounts(self):
        rows = bowl(chance_of(117), 3, 40, 10 ** 9)
        self.assertEqual(box_hull(box_of(bare_program(["flat"] * 3, {"x": rows}), "x"), 3), rows)

    def test_errors(self):
        for thing in NO_LISTS + [[], ["a"], "d"]:
            if thing != "a":
                self.refuses(NoThing, "thing", thing, box_of, EXAMPLE, thing)


class BoxWithin(Case):

    def test_the_islands(self):
        for bounds, expected in (((0,), (4, 4)), ((1,), (3, 3)), ((2,), (1, 3)), ([9], (1, 3))):
            self.assertEqual(box_within(ISLANDS, "x", bounds)((1, 1)), expected)
        self.assertEqual(box_within(ISLANDS, "x", (2,))((0, 3)), (3, 1))
        self.assertEqual(box_within(ISLANDS, "x", (2,))([2, 0]), (1, 3))

    def test_nothing_within(self):
        program = bare_program(FLATS, {"x": [(4, 4, 3)], "y": []})
        for thing, bounds in (("x", (2,)), ("y", (9,))):
            box = box_within(program, thing, bounds)
            self.assertIsNone(box((1, 1)))
            self.refuses(BadPrices, "prices", None, lambda prices: box(prices), None)

    def test_no_high_resources(self):
        program = bare_program(["flat", "flat"], {"x": [(0, 6), (3, 2)]})
        self.assertEqual(box_within(program, "x", ())((1, 1)), (3, 2))

    def test_the_level(self):
        chance = chance_of(118)
        for _ in range(100):
            program = rich_program(chance, 4, 2, 6)
            sorts = program.own_sorts()
            fronts = plain_fronts(program)
            if "flat" not in sorts or max(map(len, fronts.values()), default=0) > 20:
                continue
            for thing in fronts:
                bounds = tuple(chance.randint(0, 9) for _ in range(sorts.count("high")))
                box = box_within(program, thing, bounds)
                self.assertEqual(box_hull(box, sorts.count("flat")), level(program, thing, bounds))
                rows = sorted(parted(sorts, row, "flat") for row in fronts[thing] if is_at_most(parted(sorts, row, "high"), bounds))
                prices = [1] + [chance.randint(0, 2) for _ in range(sorts.count("flat") - 1)]
                self.assertEqual(box(prices), min(rows, key=lambda row: product(row, prices), default=None))

    def test_bounds_that_change_later(self):
        bounds = [2]
        box = box_within(ISLANDS, "x", bounds)
        bounds[0] = 0
        self.assertEqual(box((1, 1)), (1, 3))

    def test_errors(self):
        self.assertEqual(len(FIVE), 5)
        for thing in NO_LISTS + [[], ["x"], "w"]:
            self.refuses(NoThing, "thing", thing, box_within, ISLANDS, thing, None)
        for bounds in NO_BOUNDS:
            self.refuses(BadBounds, "bounds", bounds, box_within, ISLANDS, "x", bounds)
        box = box_within(ISLANDS, "x", (2,))
        for prices in NO_PRICES + [(1,), [2], (1, 1, 1), (True, 1)]:
            self.refuses(BadPrices, "prices", prices, lambda prices: box(prices), prices)


if __name__ == "__main__":
    unittest.main()
