"""Promise 4.5: whether things have plans, how high the lowest are, how many there are."""

import unittest

from anyprice.errors import BadNumber, NoThing
from anyprice.heights import heights, how_many
from anyprice.programs import Program
from helpers import EXAMPLE, NO_LISTS, NO_NUMBERS, Case, chance_of, some_program, tree_height, trees_up_to

SUM = ("sum",)


def rule(head, *parts):
    return (head, [(part, 1, (0,)) for part in parts], (1,), SUM)


def program_of(*rules):
    return Program(["flat"], rules)


def chain(many):
    return program_of(rule("t0"), *[rule(f"t{at}", f"t{at - 1}") for at in range(1, many)])


class Heights(Case):

    def test_the_example(self):
        self.tells({"a": 1, "b": 2, "c": 3}, heights, EXAMPLE)

    def test_the_longest_way_of_the_lowest_plan(self):
        program = program_of(rule("x", "y", "z"), rule("x", "w"), rule("w", "z"), rule("z", "y"), rule("y"))
        self.tells({"w": 3, "x": 3, "y": 1, "z": 2}, heights, program)
        self.tells({"w": 3, "x": 4, "y": 1, "z": 2}, heights, program.without_rule(0))

    def test_without_plans(self):
        self.tells({"x": None, "y": None}, heights, program_of(rule("x", "y"), rule("y", "x")))
        self.tells({"x": None, "y": None}, heights, program_of(rule("x", "y")))
        self.tells({"x": 1, "y": None}, heights, program_of(rule("x", "y"), rule("x")))
        self.tells({"x": None}, heights, program_of(rule("x", "x", "x")))

    def test_rings_with_a_way_out(self):
        program = program_of(rule("x", "y"), rule("y", "z"), rule("z", "x"), rule("z"))
        self.tells({"x": 3, "y": 2, "z": 1}, heights, program)

    def test_no_rules(self):
        self.tells({}, heights, program_of())

    def test_a_chain_of_a_hundred_and_twenty_things(self):
        told = self.told(heights, chain(120))
        self.assertEqual(told, {f"t{at}": at + 1 for at in range(120)})


class HowMany(Case):

    def test_numbers(self):
        program = program_of(rule("x"), rule("x"), rule("y", "x", "x"), rule("y"), rule("z", "y", "x"))
        for thing, many in (("x", 2), ("y", 5), ("z", 10)):
            self.tells(many, how_many, program, thing, many)
            self.tells(many, how_many, program, thing, many + 1)
            self.tells(many, how_many, program, thing, 10 ** 18 - 1)
            self.tells(None, how_many, program, thing, many - 1)
            self.tells(None, how_many, program, thing, 0)

    def test_none_at_all(self):
        program = program_of(rule("x", "y"), rule("y", "x"), rule("z", "q"))
        for thing in ("x", "y", "z", "q"):
            self.tells(0, how_many, program, thing, 0)
            self.tells(0, how_many, program, thing, 5)

    def test_endlessly_many(self):
        self.tells(None, how_many, EXAMPLE, "a", 10 ** 18 - 1)
        self.tells(None, how_many, EXAMPLE, "c", 0)
        self.tells(None, how_many, program_of(rule("x"), rule("x", "x")), "x", 1000)
        program = program_of(rule("x"), rule("y", "z", "x"), rule("z", "y"), rule("z", "x"), rule("w", "y"))
        self.tells(None, how_many, program, "w", 1000)
        self.tells(1, how_many, program, "x", 1000)

    def test_rings_without_plans_do_not_count(self):
        program = program_of(rule("x"), rule("x", "y"), rule("y", "y"), rule("x", "x", "y"))
        self.tells(1, how_many, program, "x", 1)
        program = program_of(rule("x"), rule("y", "y", "z"), rule("y", "x"))
        self.tells(1, how_many, program, "y", 1)

    def test_rings_that_it_does_not_come_to(self):
        program = program_of(rule("x"), rule("y", "y"), rule("y", "x"))
        self.tells(1, how_many, program, "x", 1)
        self.tells(None, how_many, program, "y", 1)

    def test_told_apart_as_trees(self):
        # Which of two plans of x stands where counts; so does which of two rules that are the same.
        program = program_of(rule("x"), rule("x"), rule("y", "x", "x", "x"))
        self.tells(8, how_many, program, "y", 8)

    def test_more_than_can_be_written_out(self):
        rules = [rule("t0"), rule("t0")] + [rule(f"t{at}", f"t{at - 1}", f"t{at - 1}") for at in range(1, 120)]
        program = program_of(*rules)
        self.tells(None, how_many, program, "t119", 10 ** 18 - 1)
        self.tells(2 ** 32, how_many, program, "t5", 2 ** 32)
        self.tells(None, how_many, program, "t5", 2 ** 32 - 1)
        self.tells(2 ** 64, how_many, program, "t6", 10 ** 40)

    def test_a_chain_of_a_hundred_and_twenty_things(self):
        self.tells(1, how_many, chain(120), "t119", 1)

    def test_as_the_plain_way(self):
        chance = chance_of(45)
        met = {"some": 0, "none": 0, "endless": 0}
        for _ in range(200):
            program = some_program(chance, chance.randint(1, 4), chance.randint(1, 7), 3)
            many = len(program.things())
            # A plan is straight, or no higher than twice the things can it be without a straight ring in it.
            low, high = trees_up_to(program, many, 2000), trees_up_to(program, 2 * many, 2000)
            if low is None or high is None:
                continue
            told = self.told(heights, program)
            for thing in program.things():
                least = min([tree_height(tree) for tree in high[thing]], default=None)
                self.assertEqual(told[thing], least)
                count = len(low[thing])
                if len(high[thing]) > count:
                    met["endless"] += 1
                    self.tells(None, how_many, program, thing, 10 ** 9)
                else:
                    met["some" if count else "none"] += 1
                    self.tells(count, how_many, program, thing, count)
                    if count:
                        self.tells(None, how_many, program, thing, count - 1)
        self.assertGreater(min(met.values()), 20)

    def test_what_is_no_thing(self):
        for thing in NO_LISTS + ["x", ["a"], "a ", "aa"]:
            if thing != "a":
                self.refuses(NoThing, "thing", thing, how_many, EXAMPLE, thing, 5)
                self.refuses(NoThing, "thing", thing, how_many, EXAMPLE, thing, None)

    def test_what_is_no_number(self):
        for thing in NO_NUMBERS:
            self.refuses(BadNumber, "number", thing, how_many, EXAMPLE, "a", thing)


if __name__ == "__main__":
    unittest.main()
