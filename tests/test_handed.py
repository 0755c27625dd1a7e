"""Promise 4.6: a front handed on."""

import unittest

from anyprice.errors import BadThing, NoThing
from anyprice.fronts import all_fronts, front
from anyprice.handed import front_rules
from anyprice.programs import Program, is_rule
from helpers import EXAMPLE, NO_LISTS, NO_NAMES, Case, chance_of, some_program


class FrontRules(Case):

    def test_the_example(self):
        self.tells([("x", (), (9, 6), ("sum", "sum")), ("x", (), (18, 4), ("sum", "sum"))], front_rules, EXAMPLE, "c", "x")

    def test_a_name_that_is_there(self):
        for name in ("a", "b", "c"):
            self.tells([(name, (), (2, 4), ("sum", "sum")), (name, (), (5, 1), ("sum", "sum"))], front_rules, EXAMPLE, "a", name)

    def test_without_plans(self):
        program = Program(["flat"], [("x", [("y", 1, [0])], [0], ["sum"])])
        self.tells([], front_rules, program, "x", "z")

    def test_one_and_three_resources(self):
        for many in (1, 3):
            program = Program(["high"] * many, [("x", [], [4] * many, ["most"] * many)])
            self.tells([("y", (), (4,) * many, ("sum",) * many)], front_rules, program, "x", "y")

    def test_names_at_the_limits(self):
        for name in ("-", ".", "0", "a" * 24):
            self.assertEqual([rule[0] for rule in self.told(front_rules, EXAMPLE, "b", name)], [name, name])

    def test_all_other_things_keep_their_fronts(self):
        chance = chance_of(46)
        for _ in range(60):
            program = some_program(chance, 4, 8, 9)
            fronts = all_fronts(program)
            for thing in program.things():
                handed = self.told(front_rules, program, thing, "new")
                self.assertEqual([rule[2] for rule in handed], fronts[thing])
                self.assertTrue(all(is_rule(program.own_sorts(), rule) for rule in handed))
                rules = [
                    (head, [("new" if part[0] == thing else part[0], part[1], part[2]) for part in parts], own, how)
                    for head, parts, own, how in program.all_rules()
                ]
                other = Program(program.own_sorts(), rules + handed)
                for name in fronts:
                    if name in other.things() and name != thing:
                        self.assertEqual(front(other, name), fronts[name])

    def test_what_is_no_thing_of_the_program(self):
        for thing in NO_LISTS + ["x", ["a"]]:
            if thing != "a":
                self.refuses(NoThing, "thing", thing, front_rules, EXAMPLE, thing, "x")
                self.refuses(NoThing, "thing", thing, front_rules, EXAMPLE, thing, None)

    def test_what_is_no_thing(self):
        for name in NO_NAMES:
            self.refuses(BadThing, "thing", name, front_rules, EXAMPLE, "a", name)


if __name__ == "__main__":
    unittest.main()
