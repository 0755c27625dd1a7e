"""Promises 10.5 and 10.6, and 10.7 as far as it tells of them: what further rules must take to be needless."""

import unittest
from itertools import product as all_of
from math import gcd

from anyprice.errors import BadHighs, BadKind, BadRule, BadSketch
from anyprice.fronts import all_fronts
from anyprice.further import is_needless, least_owns, sides_of, use_of
from anyprice.programs import Program
from helpers import (EXAMPLE, HOW, NO_AMOUNTS, NO_KINDS, NO_LISTS, Case, bare_program, bowl, chance_of, flat_front, is_at_most,
                     least_at, parted, plain_corners, plain_fronts, plain_least, plain_level, plain_made, plain_seen, product,
                     rich_program)

TIMES = ("times", "times")
# Both of the document's example 10.7.
SKETCH = ("b", [("a", 1, (0, 0))], ("times", "sum"))
PAIR = Program(["flat", "flat"], [("a", [], (0, 4), TIMES), ("a", [], (4, 0), TIMES)])
BARE = ("a", [], TIMES)
KINDS = ("prices", "around", "budgets")
NO_SKETCHES = NO_LISTS + [
    [], (), SKETCH[:2], SKETCH + ((0, 0),), ("b", [("a", 1, (0, 0))], (0, 0), ("times", "sum")), ("B", [], HOW), (1, [], HOW),
    ("b", None, HOW), ("b", "a", HOW), ("b", [("a", 0, (0, 0))], HOW), ("b", [("a", True, (0, 0))], HOW),
    ("b", [("a", 1, (1, 0))], HOW), ("b", [("a", 1, (0, 1))], TIMES), ("b", [("a", 1, (0,))], HOW), ("b", [], ("times",)),
    ("b", [], ("most", "most")), ("b", [], "times"), ("b", [], None), ("b", [("a", 1)], HOW), ("b", [], ("times", "Most")),
]


def rule_by(sketch, own):
    return (sketch[0], sketch[1], own, sketch[2])


def some_sketch(chance, program, heads):
    """A sketch of a head of these, its parts things of the program, or now and then such as it has not."""
    sorts = program.own_sorts()
    how = [chance.choice(["times", "sum", "most"] if sort == "high" else ["times", "sum"]) for sort in sorts]
    names = program.things() + ["lost"] * chance.choice([0, 0, 0, 1])
    parts = [(chance.choice(names), chance.randint(1, 2), tuple(chance.randint(0, 2) if w == "most" else 0 for w in how))
             for _ in range(chance.choice([0, 1, 1, 2, 2, 3]))] if names else []
    return (chance.choice(heads), parts, tuple(how))


def flat_program(chance):
    """A program of fronts that lie on one side, or just off it, with a thing that is had of two of them."""
    sorts = ["flat"] + [chance.choice(["flat", "high"]) for _ in range(chance.randint(0, 2))]
    lists = {thing: flat_front(chance, len(sorts), 6, 3) for thing in "xy"}
    how = [chance.choice(["sum", "most"] if sort == "high" else ["sum", "times"]) for sort in sorts]
    noughts = (0,) * len(sorts)
    return bare_program(sorts, lists).with_rule(0, ("z", [("x", 1, noughts), ("y", 1, noughts)], noughts, how))


def plain_rows(program, rule):
    """All that the rule makes of front amounts of its parts."""
    fronts = plain_fronts(program)
    return sorted({plain_made(rule, amounts) for amounts in all_of(*[fronts.get(part[0], []) for part in rule[1]])})


def plain_owns(program, sketch):
    """By the words of the FACT: one amount of the head is chosen for each row, the greatest numbers taken of all."""
    sorts = program.own_sorts()
    heads = plain_fronts(program).get(sketch[0], [])
    found = {(0,) * len(sorts)}
    for row in plain_rows(program, rule_by(sketch, (0,) * len(sorts))):
        needs = [tuple(max(0, n - r) if w != "most" else (n if n > r else 0) for w, n, r in zip(sketch[2], head, row))
                 for head in heads]
        found = set(plain_least(tuple(map(max, own, need)) for own in found for need in needs))
    return sorted(found)


def plain_sides(program, sketch, highs):
    sorts = program.own_sorts()
    limits = iter(highs)
    made = plain_rows(program, rule_by(sketch, [next(limits) if sort == "high" else 0 for sort in sorts]))
    sides = []
    for bounds in sorted({parted(sorts, row, "high") for row in made}):
        level = plain_level(sorts, plain_fronts(program).get(sketch[0], []), bounds)
        if not level:
            return None
        rows = [parted(sorts, row, "flat") for row in made if is_at_most(parted(sorts, row, "high"), bounds)]
        corners = set()
        for row in level if level[0] else []:
            cuts = [[one - other for one, other in zip(row, beside)] for beside in level if beside != row]
            corners.update(plain_corners(len(row), cuts))
        sides += [(bounds, corner, least_at(level, corner) - least_at(rows, corner)) for corner in sorted(corners)]
    return sides


def changed(program, rule, kind):
    """Whether the rule, put in, changes what is seen of something."""
    sorts = program.own_sorts()
    old, new = plain_fronts(program), plain_fronts(program.with_rule(len(program), rule))
    return any(plain_seen(sorts, new[thing], kind) != plain_seen(sorts, old.get(thing, []), kind) for thing in new)


class Owns(Case):

    def test_the_example(self):
        self.tells([(5, 3), (11, 1)], least_owns, EXAMPLE, SKETCH)
        self.tells([(0, 4), (4, 0)], least_owns, PAIR, BARE)

    def test_parts_without_plans(self):
        for program in (EXAMPLE, Program(["flat", "high"], [])):
            for head in ("a", "b", "lost"):
                self.tells([(0, 0)], least_owns, program, (head, [("lost", 1, (0, 0))], HOW))
        program = bare_program(["flat", "high"], {"a": [], "b": [(1, 1)]})
        self.tells([(0, 0)], least_owns, program, ("b", [("b", 1, (0, 0)), ("a", 2, (0, 0))], HOW))
        self.tells([(0, 0)], least_owns, program, ("a", [("a", 2, (0, 0))], HOW))

    def test_a_head_without_plans(self):
        program = bare_program(["flat", "high"], {"a": [], "b": [(1, 1)]})
        self.tells([], least_owns, program, ("a", [("b", 1, (0, 0))], HOW))
        self.tells([], least_owns, program, ("a", [], HOW))
        self.tells([], least_owns, program, ("new", [], HOW))

    def test_a_head_that_is_its_part(self):
        self.tells([(0, 0)], least_owns, PAIR, ("a", [("a", 1, (0, 0))], TIMES))
        self.tells([(0, 0)], least_owns, EXAMPLE, ("a", [("c", 1, (0, 0))], HOW))

    def test_most(self):
        program = bare_program(["high"], {"x": [(5,)], "y": [(3,)]})
        for extra, expected in ((0, 5), (1, 5), (2, 0), (3, 0)):
            self.tells([(expected,)], least_owns, program, ("x", [("y", 1, (extra,))], ("most",)))
        self.tells([(2,)], least_owns, program, ("x", [("y", 1, (0,))], ("sum",)))

    def test_by_chance(self):
        chance = chance_of(105)
        long = needless = 0
        for _ in range(300):
            program = rich_program(chance, 4, 2, chance.choice([2, 6]))
            if max(map(len, plain_fronts(program).values()), default=0) > 12:
                continue
            sketch = some_sketch(chance, program, program.things() + ["new"])
            owns = plain_owns(program, sketch)
            self.tells(owns, least_owns, program, sketch)
            long = max(long, len(owns))
            for _ in range(3):
                own = tuple(chance.randint(0, 9) for _ in program.own_sorts())
                enough = any(is_at_most(least, own) for least in owns)
                self.assertEqual(enough, not changed(program, rule_by(sketch, own), "budgets"))
                needless += enough
            for own in owns[:3]:
                self.assertFalse(changed(program, rule_by(sketch, own), "budgets"))
                for at, number in enumerate(own):
                    if number:
                        less = own[:at] + (number - 1,) + own[at + 1:]
                        self.assertTrue(changed(program, rule_by(sketch, less), "budgets"))
        self.assertGreater(long, 3)
        self.assertGreater(needless, 50)

    def test_twelve_amounts_and_three_parts(self):
        chance = chance_of(1051)
        lists = {thing: bowl(chance, 3, 12, 10 ** 6) for thing in "abcd"}
        program = bare_program(["flat", "flat", "high"], lists)
        sketch = ("a", [(thing, 1, (0, 0, 0)) for thing in "bcd"], ("times", "sum", "most"))
        owns = least_owns(program, sketch)
        rows = plain_rows(program, rule_by(sketch, (0, 0, 0)))
        self.assertEqual(len(rows), 12 ** 3)

        def enough(own):
            made = [(row[0] + own[0], row[1] + own[1], max(row[2], own[2])) for row in rows]
            return all(any(is_at_most(head, row) for head in lists["a"]) for row in made)

        for own in owns[:20] + owns[-20:]:
            self.assertTrue(enough(own))
            for at, number in enumerate(own):
                self.assertFalse(number and enough(own[:at] + (number - 1,) + own[at + 1:]))
        self.assertEqual(owns, plain_least(owns))

    def test_errors(self):
        for sketch in NO_SKETCHES:
            self.refuses(BadSketch, "sketch", sketch, least_owns, EXAMPLE, sketch)


class Sides(Case):

    def test_the_example(self):
        self.tells(None, sides_of, EXAMPLE, SKETCH, (0,))
        self.tells([((2,), (1,), 11), ((5,), (1,), 5)], sides_of, EXAMPLE, SKETCH, (1,))
        self.tells([((), (0, 1), 0), ((), (1, 0), 0), ((), (1, 1), 4)], sides_of, PAIR, BARE, ())

    def test_parts_without_plans(self):
        for head in ("a", "lost"):
            self.tells([], sides_of, EXAMPLE, (head, [("lost", 1, (0, 0))], HOW), (3,))

    def test_a_head_without_plans(self):
        self.tells(None, sides_of, EXAMPLE, ("lost", [("a", 1, (0, 0))], HOW), (3,))
        self.tells(None, sides_of, EXAMPLE, ("lost", [], HOW), (3,))

    def test_no_flat_resources(self):
        program = bare_program(["high", "high"], {"x": [(0, 4), (4, 0)], "y": [(2, 2)]})
        how = ("most", "most")
        self.tells(None, sides_of, program, ("x", [("y", 1, (0, 0))], how), (0, 0))
        self.tells(None, sides_of, program, ("x", [("y", 1, (0, 0))], how), (3, 3))
        self.tells([], sides_of, program, ("x", [("y", 1, (0, 0))], how), (4, 0))

    def test_a_number_below_0(self):
        program = bare_program(["flat", "high"], {"x": [(1, 1)], "y": [(5, 1)]})
        self.tells([((1,), (1,), -4)], sides_of, program, ("x", [("y", 1, (0, 0))], HOW), (0,))
        self.tells([((3,), (1,), -4)], sides_of, program, ("x", [("y", 1, (0, 0))], HOW), (3,))

    def test_by_chance(self):
        chance = chance_of(106)
        counts = {True: 0, False: 0, None: 0}
        for _ in range(300):
            program = rich_program(chance, 4, 2, chance.choice([2, 6]))
            if max(map(len, plain_fronts(program).values()), default=0) > 12:
                continue
            sorts = program.own_sorts()
            sketch = some_sketch(chance, program, program.things())
            for _ in range(2):
                own = tuple(chance.randint(0, 12) for _ in sorts)
                highs = parted(sorts, own, "high")
                sides = plain_sides(program, sketch, highs)
                self.tells(sides, sides_of, program, sketch, highs)
                fine = sides is not None and all(product(parted(sorts, own, "flat"), side[1]) >= side[2] for side in sides)
                self.assertEqual(fine, not changed(program, rule_by(sketch, own), "around"))
                self.assertEqual(fine, use_of(program, rule_by(sketch, own)) is None)
                counts[fine if sides else None] += 1
        self.assertGreater(min(counts.values()), 10)

    def test_errors(self):
        for sketch in NO_SKETCHES:
            self.refuses(BadSketch, "sketch", sketch, sides_of, EXAMPLE, sketch, None)
        for highs in NO_AMOUNTS + [(1, 1), (True,), (-1,), ()]:
            if highs != [1] and highs != (1,):
                self.refuses(BadHighs, "highs", highs, sides_of, EXAMPLE, SKETCH, highs)
        for highs in NO_LISTS + [(1,), [0]]:
            self.refuses(BadHighs, "highs", highs, sides_of, PAIR, BARE, highs)


class Uses(Case):

    def check(self, program, rule):
        """That a use is told exactly if a view changes, and shown by what the head costs; what it is."""
        sorts = program.own_sorts()
        told = self.told(use_of, program, rule)
        self.assertEqual(told is None, not changed(program, rule, "around"))
        if told is None:
            return None
        self.assertIs(type(told), tuple)
        bounds, prices = told
        self.assertEqual((type(bounds), type(prices)), (tuple, tuple))
        self.assertEqual((len(bounds), len(prices)), (sorts.count("high"), sorts.count("flat")))
        self.assertTrue(all(number >= 0 for number in bounds))
        self.assertTrue(all(price > 0 for price in prices))
        self.assertTrue(not prices or gcd(*prices) == 1)
        costs = []
        for each in (program, program.with_rule(0, rule)):
            rows = plain_fronts(each).get(rule[0], [])
            within = [parted(sorts, row, "flat") for row in rows if is_at_most(parted(sorts, row, "high"), bounds)]
            costs.append(least_at(within, prices))
        self.assertIsNotNone(costs[1])
        self.assertTrue(costs[0] is None or costs[1] < costs[0])
        return told

    def test_the_example(self):
        self.assertIsNone(self.check(PAIR, ("a", [], (2, 2), TIMES)))
        self.assertEqual(self.check(PAIR, ("a", [], (1, 2), TIMES)), ((), (1, 1)))

    def test_a_new_head(self):
        self.check(EXAMPLE, ("new", [("a", 1, (0, 0))], (3, 3), HOW))
        self.check(EXAMPLE, ("new", [], (3, 3), HOW))
        self.check(EXAMPLE, ("new", [("lost", 1, (0, 0))], (3, 3), HOW))
        self.check(EXAMPLE, ("new", [("new", 1, (0, 0))], (3, 3), HOW))

    def test_no_flat_resources(self):
        program = bare_program(["high"], {"x": [(4,)]})
        self.assertEqual(self.check(program, ("x", [], (3,), ("most",))), ((3,), ()))
        self.assertIsNone(self.check(program, ("x", [], (4,), ("most",))))

    def test_by_chance(self):
        chance = chance_of(1061)
        counts = {True: 0, False: 0}
        for _ in range(250):
            program = rich_program(chance, 4, 3, chance.choice([2, 6]))
            if max(map(len, plain_fronts(program).values()), default=0) > 12:
                continue
            for _ in range(3):
                sketch = some_sketch(chance, program, program.things() + ["new"])
                rule = rule_by(sketch, tuple(chance.randint(0, 12) for _ in program.own_sorts()))
                counts[self.check(program, rule) is None] += 1
        self.assertGreater(min(counts.values()), 100)

    def test_errors(self):
        good = ("a", [], (1, 1), HOW)
        for rule in NO_LISTS + [[], good[:3], SKETCH, ("a", [], (1,), HOW), ("A", [], (1, 1), HOW), ("a", [], (1, True), HOW),
                                ("a", [], (1, -1), HOW), ("a", [("b", 1, (0, 0))], (1, 1), "ab")]:
            self.refuses(BadRule, "index", 0, use_of, EXAMPLE, rule)
            self.refuses(BadRule, "index", 0, is_needless, EXAMPLE, rule, "prices")
            self.refuses(BadRule, "index", 0, is_needless, EXAMPLE, rule, "nothing")
        for kind in NO_KINDS:
            self.refuses(BadKind, "kind", kind, is_needless, EXAMPLE, good, kind)


class Needless(Case):

    def test_the_example(self):
        for own, expected in (((2, 2), [True, True, False]), ((1, 2), [False] * 3), ((0, 4), [True] * 3), ((5, 1), [True] * 3)):
            for kind, answer in zip(KINDS, expected):
                self.tells(answer, is_needless, PAIR, ("a", [], own, TIMES), kind)

    def test_at_prices_alone(self):
        # (3, 3) is never best by itself; a surrounding with a "most" sees it.
        program = bare_program(["flat", "high"], {"x": [(0, 4), (4, 0)]})
        rule = ("x", [], (3, 3), ("times", "times"))
        for kind, answer in zip(KINDS, (True, False, False)):
            self.tells(answer, is_needless, program, rule, kind)
        # Such a rule may stand in the program, and what it makes have another hull then.
        above = program.with_rule(0, ("y", [("x", 1, (0, 0))], (0, 3), ("times", "most")))
        self.assertFalse(changed(above.without_rule(0), rule, "prices"))
        for kind in KINDS:
            self.tells(False, is_needless, above, rule, kind)

    def test_rings(self):
        program = Program(["flat", "high"], EXAMPLE.all_rules())
        for own in ((0, 0), (1, 0), (0, 5), (30, 0)):
            rule = ("a", [("c", 1, (0, 0)), ("b", 2, (0, 0))], own, ("sum", "most"))
            for kind in KINDS:
                self.tells(not changed(program, rule, kind), is_needless, program, rule, kind)

    def test_by_chance(self):
        chance = chance_of(1062)
        found = {}
        for at in range(400):
            program = rich_program(chance, 4, 3, chance.choice([2, 6])) if at % 2 else flat_program(chance)
            if max(map(len, plain_fronts(program).values()), default=0) > 12:
                continue
            sketch = some_sketch(chance, program, program.things() + ["new"])
            own = tuple(chance.randint(0, 8) for _ in program.own_sorts())
            if at % 2 == 0 and at % 3:
                sketch = (chance.choice("xy"), [], sketch[2])
                own = chance.choice(flat_front(chance, len(own), 6, 3))
            rule = rule_by(sketch, own)
            answers = []
            for kind in KINDS:
                answers.append(not changed(program, rule, kind))
                self.tells(answers[-1], is_needless, program, rule, kind)
            self.assertEqual(answers, sorted(answers, reverse=True))
            found[sum(answers)] = found.get(sum(answers), 0) + 1
        self.assertEqual(sorted(found), [0, 1, 2, 3])

    def test_forty_amounts(self):
        chance = chance_of(1063)
        rows = bowl(chance, 3, 40)
        how = ("sum", "sum", "most")
        program = bare_program(["flat", "flat", "high"], {"x": rows}).with_rule(0, ("y", [("x", 1, (0, 0, 0))], (1, 1, 1), how))
        self.assertEqual(len(all_fronts(program)["y"]), 40)
        for at in range(0, 40, 13):
            row = rows[at]
            for own, answer in ((row, True), ((row[0], row[1], row[2] - 1), False), ((row[0] + 1, row[1], row[2]), True)):
                for kind in KINDS:
                    self.tells(answer, is_needless, program, ("x", [], own, how), kind)


if __name__ == "__main__":
    unittest.main()
