"""Promises 8.1 to 8.3, and 8.8 as far as it tells of them: levels, what is seen, what tops a thing."""

import unittest
from itertools import permutations, product as all_of

from anyprice.costs import least_cost
from anyprice.errors import BadBounds, BadHead, BadKind, NoThing
from anyprice.fronts import front
from anyprice.hulls import hull
from anyprice.levels import level, seen, topped
from anyprice.programs import Program
from helpers import (EXAMPLE, NO_KINDS, NO_LISTS, NO_NAMES, Case, bare_program, bowl, chance_of, flat_front, is_at_most, parted,
                     plain_hull, plain_least, plain_level, plain_made, plain_seen, plain_view, product, rich_program,
                     some_front)

FLATS = ("flat", "flat", "high")
FIVE = [(1, 3, 2), (2, 2, 2), (3, 1, 2), (3, 3, 1), (4, 4, 0)]
# The things of the document's example 8.8.
ISLANDS = bare_program(FLATS, {"x": FIVE, "y": [row for row in FIVE if row != (3, 3, 1)],
                               "z": [row for row in FIVE if row != (2, 2, 2)]})
GREAT = 10 ** 18
NO_BOUNDS = NO_LISTS + [[], (), [None], [True], (False,), ["1"], [-1], [[1]], [(1,)], [1, 2], (0, 0), [{}], [EXAMPLE]]


def sorts_of(many):
    return list(all_of(("flat", "high"), repeat=many))


def near(numbers):
    return sorted({max(0, number + step) for number in numbers for step in (-1, 0, 1)})


class Levels(Case):

    def test_the_example(self):
        self.tells([(3, 3)], level, ISLANDS, "x", (1,))
        self.tells([(4, 4)], level, ISLANDS, "y", (1,))
        self.tells([(1, 3), (3, 1)], level, ISLANDS, "x", (2,))

    def test_at_just_below_and_just_above(self):
        for bound, expected in ((0, [(4, 4)]), (1, [(3, 3)]), (2, [(1, 3), (3, 1)]), (3, [(1, 3), (3, 1)]),
                                (GREAT, [(1, 3), (3, 1)])):
            self.tells(expected, level, ISLANDS, "x", [bound])
        program = bare_program(FLATS, {"x": [(4, 4, 3), (3, 3, 5)]})
        for bound, expected in ((0, []), (2, []), (3, [(4, 4)]), (4, [(4, 4)]), (5, [(3, 3)]), (6, [(3, 3)])):
            self.tells(expected, level, program, "x", (bound,))

    def test_two_of_one_row(self):
        # Both have (2, 2) in the flat resources; the row is told once.
        program = bare_program(("flat", "high", "high"), {"x": [(2, 0, 5), (2, 5, 0), (3, 0, 0)]})
        self.tells([(2,)], level, program, "x", (5, 5))
        self.tells([(2,)], level, program, "x", (0, 5))
        self.tells([(3,)], level, program, "x", (4, 4))

    def test_no_high_resource(self):
        program = bare_program(("flat", "flat"), {"x": [(0, 6), (2, 5), (3, 3), (6, 0)]})
        for bounds in ((), []):
            self.tells([(0, 6), (6, 0)], level, program, "x", bounds)

    def test_no_flat_resource(self):
        program = bare_program(("high", "high"), {"x": [(0, 6), (6, 0)]})
        for bounds, expected in (((0, 6), [()]), ((6, 0), [()]), ((5, 5), []), ((0, 5), []), ((9, 9), [()])):
            self.tells(expected, level, program, "x", bounds)

    def test_without_plans(self):
        for sorts in sorts_of(3):
            program = bare_program(sorts, {"x": []})
            self.tells([], level, program, "x", (9,) * sorts.count("high"))

    def test_by_chance(self):
        chance = chance_of(81)
        sizes = set()
        for _ in range(200):
            sorts = chance.choice(sorts_of(chance.randint(1, 3)))
            amounts = some_front(chance, len(sorts), 12, chance.choice([2, 4, 9]))
            program = bare_program(sorts, {"x": amounts})
            columns = [near(column) for column in zip(*[parted(sorts, row, "high") for row in amounts])]
            for _ in range(3):
                bounds = tuple(chance.choice(column) for column in columns)
                expected = plain_level(sorts, amounts, bounds)
                self.tells(expected, level, program, "x", bounds)
                sizes.add((sorts.count("flat"), len(expected)))
        self.assertTrue({(0, 1), (1, 1), (2, 1), (2, 2), (3, 1)} <= sizes)

    def test_sorts_in_any_order(self):
        for order in permutations(range(3)):
            sorts = [FLATS[at] for at in order]
            program = bare_program(sorts, {"x": [tuple(row[at] for at in order) for row in FIVE]})
            flats = [at for at in order if at < 2]
            for bound, rows in ((0, [(4, 4)]), (1, [(3, 3)]), (2, [(1, 3), (3, 1)])):
                self.tells(sorted(tuple(row[at] for at in flats) for row in rows), level, program, "x", (bound,))

    def test_forty_great_amounts(self):
        amounts = bowl(chance_of(811), 3, 40)
        for sorts in (FLATS, ("high", "flat", "flat"), ("flat", "high", "high")):
            program = bare_program(sorts, {"x": amounts})
            for row in amounts[::9]:
                bounds = parted(sorts, row, "high")
                for low in (bounds, bounds[:-1] + (bounds[-1] - 1,)):
                    self.tells(plain_level(sorts, amounts, low), level, program, "x", low)


class Seen(Case):

    def test_the_example(self):
        self.tells(FIVE, seen, ISLANDS, "x", "budgets")
        self.tells([(1, 3, 2), (3, 1, 2), (3, 3, 1), (4, 4, 0)], seen, ISLANDS, "x", "around")
        self.tells([(1, 3, 2), (3, 1, 2), (4, 4, 0)], seen, ISLANDS, "x", "prices")

    def test_without_plans(self):
        for kind in ("prices", "around", "budgets"):
            self.tells([], seen, bare_program(("flat", "high"), {"x": []}), "x", kind)

    def test_by_chance(self):
        chance = chance_of(82)
        met = 0
        for _ in range(200):
            sorts = chance.choice(sorts_of(chance.randint(1, 3)) + list(permutations(FLATS)))
            amounts = chance.choice([some_front, flat_front])(chance, len(sorts), 12, chance.choice([2, 4, 9]))
            program = bare_program(sorts, {"x": amounts})
            for kind in ("prices", "around", "budgets"):
                self.tells(plain_seen(sorts, amounts, kind), seen, program, "x", kind)
            view = seen(program, "x", "around")
            self.assertTrue(set(hull(program, "x")) <= set(view) <= set(amounts))
            if "high" not in sorts:
                self.assertEqual(view, hull(program, "x"))
            if sorts.count("flat") < 2:
                self.assertEqual(view, amounts)
            met += len(hull(program, "x")) < len(view) < len(amounts)
        self.assertGreater(met, 5)

    def test_levels_are_the_hulls_of_what_is_viewed(self):
        chance = chance_of(821)
        for _ in range(100):
            sorts = chance.choice([("flat", "high", "flat"), ("high", "flat", "flat"), ("high", "flat", "high")])
            amounts = some_front(chance, 3, 12, chance.choice([2, 4, 9]))
            program = bare_program(sorts, {"x": amounts})
            view = seen(program, "x", "around")
            for bounds in all_of(range(0, 10, 3), repeat=sorts.count("high")):
                rows = [parted(sorts, row, "flat") for row in view if is_at_most(parted(sorts, row, "high"), bounds)]
                self.assertEqual(level(program, "x", bounds), plain_hull(rows))

    def test_what_heads_have_of_what_is_seen_of_parts(self):
        chance = chance_of(822)
        for _ in range(80):
            program = rich_program(chance, 3, 4, 6)
            sorts, rules = program.own_sorts(), program.all_rules()
            for kind in ("prices", "around", "budgets"):
                if kind == "prices" and any("most" in rule[3] for rule in rules):
                    continue
                found = {thing: seen(program, thing, kind) for thing in program.things()}
                made = {thing: [] for thing in found}
                for rule in rules:
                    for amounts in all_of(*[found[part[0]] for part in rule[1]]):
                        made[rule[0]].append(plain_made(rule, amounts))
                for thing in found:
                    self.assertEqual(plain_seen(sorts, plain_least(made[thing]), kind), found[thing])

    def test_forty_great_amounts(self):
        amounts = bowl(chance_of(823), 3, 40)
        for sorts in (FLATS, ("high", "flat", "high"), ("flat",) * 3, ("high",) * 3):
            program = bare_program(sorts, {"x": amounts})
            for kind in ("prices", "around", "budgets"):
                self.tells(amounts, seen, program, "x", kind)
        # In the flat resources none but the least of each are needed.
        line = [(k * GREAT, (39 - k) * GREAT, abs(k - 20) + 3) for k in range(40)]
        program = bare_program(FLATS, {"x": line})
        self.tells(plain_view(FLATS, line), seen, program, "x", "around")


class Topped(Case):

    def test_the_rule(self):
        noughts = (0, 0, 0)
        told = self.told(topped, ISLANDS, "head", "x", (7,))
        self.assertEqual(told.own_sorts(), list(FLATS))
        self.assertEqual(told.all_rules(), ISLANDS.all_rules() + [
            ("head", (("x", 1, noughts),), (0, 0, 7), ("times", "times", "most"))])
        self.assertEqual(front(told, "head"), [(1, 3, 7), (2, 2, 7), (3, 1, 7)])

    def test_sorts_in_any_order(self):
        for many in (1, 2, 3):
            for sorts in sorts_of(many):
                program = bare_program(sorts, {"x": [(1,) * many]})
                bounds = tuple(range(5, 5 + sorts.count("high")))
                left = list(bounds)
                own = tuple(left.pop(0) if sort == "high" else 0 for sort in sorts)
                how = tuple("most" if sort == "high" else "times" for sort in sorts)
                told = self.told(topped, program, "h", "x", bounds)
                self.assertEqual(told.all_rules()[-1], ("h", (("x", 1, (0,) * many),), own, how))
                self.assertEqual(len(told), len(program) + 1)

    def test_heads_at_the_limits(self):
        for head in ("-", ".", "0", "a" * 24):
            self.assertEqual(topped(EXAMPLE, head, "a", [GREAT]).all_rules()[-1][0], head)

    def test_fronts_of_heads(self):
        chance = chance_of(83)
        for _ in range(60):
            sorts = chance.choice(sorts_of(chance.randint(1, 3)))
            amounts = some_front(chance, len(sorts), 8, 6)
            bounds = [chance.randint(0, 7) for sort in sorts if sort == "high"]
            told = topped(bare_program(sorts, {"x": amounts}), "h", "x", bounds)
            own = told.all_rules()[-1][2]
            self.assertEqual(front(told, "h"), plain_least([tuple(map(max, row, own)) for row in amounts]))


def surrounded(program, thing, rules):
    """The program with a surrounding, whose rules are passed with "here" for the thing."""
    further = [(head, [(thing if part[0] == "here" else part[0], *part[1:]) for part in parts], own, how)
               for head, parts, own, how in rules]
    return Program(program.own_sorts(), program.all_rules() + further)


class Surroundings(Case):

    def some_rules(self, chance, sorts):
        rules = []
        for at in range(chance.randint(1, 4)):
            how = [chance.choice(["times", "sum", "most"] if sort == "high" else ["times", "sum"]) for sort in sorts]
            parts = []
            for _ in range(chance.randint(1, 2)):
                name = chance.choice(["here"] + [f"s{number}" for number in range(at)])
                parts.append((name, chance.randint(1, 2), [chance.randint(0, 3) if w == "most" else 0 for w in how]))
            rules.append((f"s{at}", parts, [chance.randint(0, 4) for _ in sorts], how))
        return rules

    def test_the_same_view_costs_the_same_everywhere(self):
        chance = chance_of(84)
        met = 0
        for _ in range(150):
            sorts = chance.choice([("flat", "flat", "high"), ("high", "flat", "flat"), ("flat", "high")])
            amounts = flat_front(chance, len(sorts), 9, 5)
            view = plain_view(sorts, amounts)
            program = bare_program(sorts, {"x": amounts, "y": view})
            self.assertEqual(seen(program, "x", "around"), seen(program, "y", "around"))
            rules = self.some_rules(chance, sorts)
            both = [surrounded(program, thing, rules) for thing in "xy"]
            for _ in range(6):
                prices = [chance.choice([1, 2, 5, 30]) for _ in sorts]
                costs = [least_cost(around, rules[-1][0], prices) for around in both]
                self.assertEqual(costs[0], costs[1])
            met += view != amounts
        self.assertGreater(met, 20)

    def test_the_least_cost_of_what_tops(self):
        # What the bounds cost and the level within them costs, over all bounds.
        chance = chance_of(841)
        for _ in range(50):
            sorts = ("flat", "high", "flat")
            amounts = some_front(chance, 3, 9, 5)
            program = bare_program(sorts, {"x": amounts})
            bound = chance.randint(0, 6)
            told = topped(program, "h", "x", (bound,))
            prices = [chance.randint(1, 9) for _ in range(3)]
            costs = [high * prices[1] + product(row, (prices[0], prices[2]))
                     for high in range(bound, 12) for row in level(program, "x", (high,))]
            self.assertEqual(least_cost(told, "h", prices), min(costs))


class Refused(Case):

    def test_what_is_no_thing(self):
        for thing in NO_LISTS + ["x", ["a"], ("a",)]:
            if thing != "a":
                self.refuses(NoThing, "thing", thing, level, EXAMPLE, thing, None)
                self.refuses(NoThing, "thing", thing, seen, EXAMPLE, thing, None)
                self.refuses(NoThing, "thing", thing, topped, EXAMPLE, "h", thing, None)

    def test_what_are_no_bounds(self):
        for bounds in NO_BOUNDS:
            self.refuses(BadBounds, "bounds", bounds, level, EXAMPLE, "a", bounds)
            self.refuses(BadBounds, "bounds", bounds, topped, EXAMPLE, "h", "a", bounds)

    def test_bounds_of_other_lengths(self):
        for many, wrong in ((0, [(0,), [0, 0], None, 0, {}, ""]), (2, [(), (0,), [1, 2, 3], [1, True], [1, -1]]),
                            (3, [(), (1, 2), [1, 2, None], (1, 2, 3, 4)])):
            program = bare_program(["high"] * many + ["flat"] * (3 - many), {"x": [(1, 1, 1)], "y": []})
            for bounds in wrong:
                for thing in "xy":
                    self.refuses(BadBounds, "bounds", bounds, level, program, thing, bounds)
                    self.refuses(BadBounds, "bounds", bounds, topped, program, "h", thing, bounds)

    def test_what_is_no_kind(self):
        for kind in NO_KINDS:
            self.refuses(BadKind, "kind", kind, seen, EXAMPLE, "a", kind)

    def test_what_is_no_head(self):
        for head in NO_NAMES + ["a", "b", "c"]:
            self.refuses(BadHead, "head", head, topped, EXAMPLE, head, "a", (1,))
            self.refuses(BadHead, "head", head, topped, EXAMPLE, head, None, None)

    def test_a_hole_is_no_head(self):
        program = Program(["flat"], [("x", [("y", 1, [0])], [0], ["sum"])])
        self.refuses(BadHead, "head", "y", topped, program, "y", "x", ())


if __name__ == "__main__":
    unittest.main()
