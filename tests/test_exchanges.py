"""Promise 8.7: a thing in the place of a part, and what things come to."""

import unittest

from anyprice.errors import BadNumber, BadPlace, NoThing
from anyprice.exchanges import exchanged, reached
from anyprice.fronts import front
from anyprice.heights import heights
from anyprice.likes import alike
from anyprice.programs import Program
from helpers import (EXAMPLE, HOW, NO_INTEGERS, NO_LISTS, Case, chance_of, plain_fronts, plain_seen,
                     rich_program, some_program)


def plain_reached(program, thing):
    found = {thing}
    while True:
        further = found | {part[0] for rule in program.all_rules() if rule[0] in found for part in rule[1]}
        if further == found:
            return sorted(found)
        found = further


class Exchanged(Case):

    def test_the_examples_program(self):
        told = self.told(exchanged, EXAMPLE, 3, 1, "a")
        rules = EXAMPLE.all_rules()
        rules[3] = ("c", [("a", 1, (0, 0)), ("a", 1, (0, 2))], (0, 3), HOW)
        self.assertEqual(told, Program(["flat", "high"], rules))
        self.assertEqual(told.own_sorts(), ["flat", "high"])
        rules[3] = ("c", [("c", 1, (0, 0)), ("b", 1, (0, 2))], (0, 3), HOW)
        self.tells(Program(["flat", "high"], rules), exchanged, EXAMPLE, 3, 0, "c")
        self.tells(EXAMPLE, exchanged, EXAMPLE, 2, 0, "a")

    def test_times_and_extra_stay(self):
        program = Program(["high"], [("x", [("y", 3, (0,)), ("y", 2, (0,))], (1,), ("times",)),
                                     ("x", [("y", 3, (7,))], (1,), ("most",)), ("z", [], (2,), ("sum",))])
        self.assertEqual(exchanged(program, 0, 1, "z").all_rules()[0],
                         ("x", (("y", 3, (0,)), ("z", 2, (0,))), (1,), ("times",)))
        self.assertEqual(exchanged(program, 1, 0, "x").all_rules()[1], ("x", (("x", 3, (7,)),), (1,), ("most",)))

    def test_a_thing_that_went(self):
        # y was a thing by this part alone.
        program = Program(["flat"], [("x", [("y", 1, (0,))], (1,), ("sum",)), ("z", [], (2,), ("sum",))])
        told = exchanged(program, 0, 0, "z")
        self.assertEqual(told.things(), ["x", "z"])
        self.assertEqual(front(told, "x"), [(3,)])

    def test_the_last_sentence(self):
        # Both are alike; with y in the place of x in the first rule y has no plan: the head is reached from y.
        program = Program(["flat"], [("y", [("x", 1, (0,))], (0,), ("sum",)), ("x", [], (4,), ("sum",))])
        for kind in ("prices", "around", "budgets"):
            self.assertTrue(alike(program, "x", "y", kind))
        self.assertEqual(reached(program, "y"), ["x", "y"])
        told = exchanged(program, 0, 0, "y")
        self.assertEqual(front(told, "y"), [])
        self.assertIsNone(heights(told)["y"])

    def test_the_fact(self):
        chance = chance_of(87)
        kinds = {"prices": 0, "around": 0, "budgets": 0}
        for _ in range(1500):
            program = rich_program(chance, 4, 3, chance.choice([1, 3, 6]))
            fronts = plain_fronts(program)
            if max(map(len, fronts.values()), default=0) > 20:
                continue
            sorts = program.own_sorts()
            spots = [(number, place) for number, rule in enumerate(program.all_rules()) for place in range(len(rule[1]))]
            if not spots:
                continue
            number, place = chance.choice(spots)
            rule = program.all_rules()[number]
            for thing in program.things():
                if thing == rule[1][place][0] or rule[0] in reached(program, thing):
                    continue
                further = plain_fronts(exchanged(program, number, place, thing))
                for kind in kinds:
                    if kind == "prices" and any("most" in other[3] for other in program.all_rules()):
                        continue
                    if alike(program, thing, rule[1][place][0], kind):
                        kinds[kind] += 1
                        for name in further:
                            self.assertEqual(plain_seen(sorts, further[name], kind), plain_seen(sorts, fronts[name], kind))
        self.assertGreater(min(kinds.values()), 20)

    def test_errors(self):
        for number in NO_INTEGERS + [-1, 5, 10 ** 20]:
            self.refuses(BadNumber, "number", number, exchanged, EXAMPLE, number, 0, "a")
            self.refuses(BadNumber, "number", number, exchanged, EXAMPLE, number, -1, "no")
        for place in NO_INTEGERS + [-1, 2, 10 ** 20]:
            self.refuses(BadPlace, "place", place, exchanged, EXAMPLE, 3, place, "a")
            self.refuses(BadPlace, "place", place, exchanged, EXAMPLE, 3, place, "no")
        self.refuses(BadPlace, "place", 0, exchanged, EXAMPLE, 0, 0, "a")
        for thing in NO_LISTS + [[], ["a"], ("a",), "d", "A"]:
            if thing != "a":
                self.refuses(NoThing, "thing", thing, exchanged, EXAMPLE, 3, 1, thing)


class Reached(Case):

    def test_the_examples_program(self):
        for thing in "abc":
            self.tells(["a", "b", "c"], reached, EXAMPLE, thing)

    def test_chains_rings_and_holes(self):
        one = ("sum",)
        program = Program(["flat"], [("a", [("b", 1, (0,))], (0,), one), ("b", [("h", 1, (0,)), ("c", 2, (0,))], (0,), one),
                                     ("c", [("b", 1, (0,))], (0,), one), ("d", [("d", 1, (0,))], (0,), one)])
        self.tells(["a", "b", "c", "h"], reached, program, "a")
        self.tells(["b", "c", "h"], reached, program, "b")
        self.tells(["b", "c", "h"], reached, program, "c")
        self.tells(["d"], reached, program, "d")
        self.tells(["h"], reached, program, "h")

    def test_by_chance(self):
        chance = chance_of(871)
        for _ in range(60):
            program = some_program(chance, chance.randint(1, 6), chance.randint(0, 8), 3)
            for thing in program.things():
                self.tells(plain_reached(program, thing), reached, program, thing)

    def test_a_long_chain(self):
        names = [f"t{number:03}" for number in range(120)]
        rules = [(one, [(other, 1, (0,))], (1,), ("sum",)) for one, other in zip(names, names[1:])]
        program = Program(["flat"], rules)
        self.tells(names, reached, program, "t000")
        self.tells(["t119"], reached, program, "t119")

    def test_errors(self):
        for thing in NO_LISTS + [[], ["a"], ("a",), "d", "A"]:
            if thing != "a":
                self.refuses(NoThing, "thing", thing, reached, EXAMPLE, thing)
        self.refuses(NoThing, "thing", "a", reached, Program(["flat"], []), "a")


if __name__ == "__main__":
    unittest.main()
