"""Promise 10.4, and 10.7 as far as it tells of it: idle rules, and what is left without them."""

import unittest

from anyprice.idles import idle_rules, lean_rules
from anyprice.programs import Program
from anyprice.tops import tops
from helpers import EXAMPLE, Case, bowl, chance_of, plain_fronts, rich_program, some_program


def front_in(program, thing):
    return plain_fronts(program).get(thing, [])


def kept_rules(program, numbers):
    return Program(program.own_sorts(), [program.all_rules()[number] for number in numbers])


def plain_idle(program, number):
    head = program.all_rules()[number][0]
    return front_in(program, head) == front_in(program.without_rule(number), head)


def plain_lean(program):
    left = list(range(len(program)))
    for number in reversed(range(len(program))):
        if plain_idle(kept_rules(program, left), left.index(number)):
            left.remove(number)
    return left


class Idle(Case):

    def test_the_example(self):
        self.tells([4], idle_rules, EXAMPLE)
        self.tells([0, 1, 2, 3], lean_rules, EXAMPLE)

    def test_no_rules(self):
        self.tells([], idle_rules, Program(["flat"], []))
        self.tells([], lean_rules, Program(["flat"], []))

    def test_a_head_that_goes(self):
        one = ("sum",)
        program = Program(["flat"], [("x", [("h", 1, (0,))], (0,), one), ("y", [], (1,), one), ("r", [("r", 1, (0,))], (0,), one)])
        self.tells([0, 2], idle_rules, program)
        self.tells([1], lean_rules, program)

    def test_two_that_make_the_same(self):
        one = ("sum",)
        program = Program(["flat"], [("x", [], (1,), one), ("y", [], (1,), one), ("x", [], (1,), one), ("x", [], (2,), one)])
        self.tells([0, 2, 3], idle_rules, program)
        self.tells([0, 1], lean_rules, program)

    def test_another_order_leaves_fewer(self):
        # Rule 2 makes both amounts, through a thing that has both.
        two = ("sum", "sum")
        program = Program(["flat", "flat"], [
            ("x", [], (0, 4), two), ("x", [], (4, 0), two), ("x", [("y", 1, (0, 0))], (0, 0), two),
            ("y", [], (0, 4), two), ("y", [], (4, 0), two)])
        self.tells([0, 1, 2], idle_rules, program)
        self.tells([0, 1, 3, 4], lean_rules, program)

    def test_rings(self):
        # Each of rules 0 and 1 is had through the other one and a rule of the ring.
        one = ("sum",)
        program = Program(["flat"], [("x", [], (1,), one), ("y", [], (1,), one), ("x", [("y", 1, (0,))], (0,), one),
                                     ("y", [("x", 1, (0,))], (0,), one)])
        self.tells([0, 1, 2, 3], idle_rules, program)
        self.tells(plain_lean(program), lean_rules, program)
        self.tells([0, 1], lean_rules, program)

    def test_by_chance(self):
        chance = chance_of(1041)
        counts = [0, 0]
        for at in range(150):
            program = rich_program(chance, 4, 3, chance.choice([2, 6])) if at % 3 else some_program(chance, 4, 8, 3)
            fronts = plain_fronts(program)
            if max(map(len, fronts.values()), default=0) > 20:
                continue
            idle = [number for number in range(len(program)) if plain_idle(program, number)]
            lean = plain_lean(program)
            self.tells(idle, idle_rules, program)
            self.tells(lean, lean_rules, program)
            counts[0] += len(idle)
            counts[1] += len(program) - len(lean) < len(idle)
            self.check_facts(program, fronts, idle, lean)
        self.assertGreater(counts[0], 100)
        self.assertGreater(counts[1], 10)

    def check_facts(self, program, fronts, idle, lean):
        for number in idle:
            fewer = plain_fronts(program.without_rule(number))
            self.assertTrue(all(fewer.get(thing, []) == fronts[thing] for thing in fronts))
        fewer = plain_fronts(kept_rules(program, lean))
        self.assertTrue(all(fewer.get(thing, []) == fronts[thing] for thing in fronts))
        self.assertEqual(idle_rules(kept_rules(program, lean)), [])
        for thing in fronts:
            self.assertTrue(all(number in idle for number, amounts in tops(program, thing).items() if not amounts))

    def test_great_programs(self):
        chance = chance_of(1042)
        how = ("sum", "sum", "most")
        noughts = (0, 0, 0)
        rules = [("a", [], row, how) for row in bowl(chance, 3, 40)]
        for step in range(118):
            below = f"b{step - 1}" if step else "a"
            rules += [(f"b{step}", [(below, 1, noughts)], noughts, how), (f"b{step}", [("a", 1, noughts)], (0, 1, 0), how)]
        rules += [("a", [("b9", 1, noughts)], noughts, how)]
        program = Program(["flat", "flat", "high"], rules)
        idle = idle_rules(program)
        # a and b0 to b9 are a ring.
        self.assertEqual(idle, [
            number for number in range(40, len(rules)) if rules[number][2] == (0, 1, 0) or number == len(rules) - 1])
        self.assertEqual(lean_rules(program), [number for number in range(len(rules)) if number not in idle])


if __name__ == "__main__":
    unittest.main()
