"""Promises 5.1 to 5.3, and 5.7 as far as it tells of them: fronts and tables."""

import unittest
from itertools import product as all_of

from anyprice.errors import NoThing
from anyprice.fronts import all_fronts, front, is_table
from anyprice.heights import heights
from anyprice.programs import Program, made_of
from helpers import (EXAMPLE, NO_LISTS, Case, chance_of, is_at_most, plain_fronts, plain_least, some_program, swapped,
                     tree_amount, tree_is_straight, trees_up_to)

TABLE = {"a": [(2, 4), (5, 1)], "b": [(7, 4), (16, 2)], "c": [(9, 6), (18, 4)]}


def summed(head, parts, own):
    return (head, [(part, 1, [0] * len(own)) for part in parts], own, ["sum"] * len(own))


class Fronts(Case):

    def test_the_example(self):
        self.tells(TABLE, all_fronts, EXAMPLE)
        for thing in TABLE:
            self.tells(TABLE[thing], front, EXAMPLE, thing)

    def test_without_plans(self):
        program = Program(["flat"], [summed("x", ["y"], [0]), summed("y", ["x"], [0])])
        self.tells([], front, program, "x")
        self.tells({"x": [], "y": []}, all_fronts, program)
        program = Program(["flat"], [summed("x", ["y"], [0]), summed("x", [], [3]), summed("z", ["x", "y"], [0])])
        self.tells({"x": [(3,)], "y": [], "z": []}, all_fronts, program)

    def test_no_rules(self):
        self.tells({}, all_fronts, Program(["high"], []))

    def test_equal_amounts_once(self):
        program = Program(["flat", "flat"], [summed("x", [], [1, 2]), summed("x", [], [1, 2]), summed("x", ["x"], [0, 0])])
        self.tells([(1, 2)], front, program, "x")

    def test_one_resource(self):
        program = Program(["flat"], [summed("x", [], [4]), summed("x", [], [3]), summed("y", ["x", "x"], [1])])
        self.tells({"x": [(3,)], "y": [(7,)]}, all_fronts, program)

    def test_three_resources(self):
        how = ["times", "sum", "most"]
        program = Program(["flat", "flat", "high"], [
            ("x", [], (1, 1, 5), how), ("x", [], (1, 5, 1), how), ("x", [], (5, 1, 1), how), ("x", [], (5, 5, 5), how),
            ("y", [("x", 2, (0, 0, 1)), ("x", 1, (0, 0, 3))], (0, 0, 5), how),
        ])
        own = [(1, 1, 5), (1, 5, 1), (5, 1, 1)]
        made = [made_of(program, 4, pair) for pair in all_of(own, repeat=2)]
        self.tells({"x": own, "y": plain_least(made)}, all_fronts, program)

    def test_a_ring_that_helps(self):
        # x is dear by itself, cheap by way of y, which is had of another x.
        program = Program(["flat", "flat"], [
            summed("x", [], [9, 0]), summed("x", ["y"], [0, 1]), summed("y", [], [2, 2]), summed("y", ["x"], [0, 0]),
        ])
        self.tells({"x": [(2, 3), (9, 0)], "y": [(2, 2), (9, 0)]}, all_fronts, program)

    def test_a_thing_that_is_a_part_twice(self):
        program = Program(["flat", "flat"], [
            summed("x", [], [0, 2]), summed("x", [], [2, 0]), summed("y", ["x", "x"], [0, 0]), summed("x", ["y", "y"], [0, 0]),
        ])
        self.tells({"x": [(0, 2), (2, 0)], "y": [(0, 4), (2, 2), (4, 0)]}, all_fronts, program)

    def test_what_the_thing_does_not_come_to_is_left_alone(self):
        # z has far more amounts than fronts may have; x does not come to it.
        rules = [summed("x", [], [1, 1])] + [summed("p", [], [k, 3 - k]) for k in range(4)]
        rules += [(f"z{k}", [("p" if k == 0 else f"z{k - 1}", 4, (0, 0)), ("p", 1, (0, 0))], (0, 0), ("times", "times"))
                  for k in range(40)]
        self.tells([(1, 1)], front, Program(["flat", "flat"], rules), "x")

    def test_a_chain_of_a_hundred_and_twenty_things(self):
        rules = [summed("t0", [], [0, 119]), summed("t0", [], [1, 0])]
        rules += [summed(f"t{at}", [f"t{at - 1}"], [1, 1]) for at in range(1, 120)]
        self.tells([(119, 238), (120, 119)], front, Program(["flat", "flat"], rules), "t119")
        rules += [summed("t0", ["t119"], [0, 0])]
        told = self.told(all_fronts, Program(["flat", "flat"], rules))
        self.assertEqual(told, {f"t{at}": [(at, 119 + at), (at + 1, at)] for at in range(120)})

    def test_a_ring_of_a_hundred_and_twenty_things(self):
        how = ["times"]
        rules = [(f"t{at}", [(f"t{(at + 1) % 120}", 2, (0,))], (1,), how) for at in range(120)]
        self.tells([], front, Program(["flat"], rules), "t7")
        rules.append(("t119", [], (10 ** 6,), how))
        self.tells([(2 ** 119 * 10 ** 6 + 2 ** 119 - 1,)], front, Program(["flat"], rules), "t0")

    def test_forty_amounts_and_four_parts(self):
        rules = [summed("x", [], [k, 9 - k, 1]) for k in range(10)]
        rules.append(summed("y", ["x"] * 4, [0, 0, 0]))
        rules += [summed(f"z{k}", [f"z{k - 1}" if k else "y"], [0, 0, k]) for k in range(100)]
        program = Program(["flat", "flat", "high"], rules)
        self.tells([(k, 36 - k, 4 + 4950) for k in range(37)], front, program, "z99")

    def test_numbers_at_the_limits(self):
        rules = [("x", [], (10 ** 6, 0), ("times", "sum")), ("x", [], (0, 10 ** 6), ("times", "sum")),
                 ("y", [("x", 10 ** 4, (0, 0)), ("x", 10 ** 4, (0, 0))], (10 ** 6, 10 ** 6), ("times", "sum"))]
        great = 10 ** 6
        self.tells([(great, 3 * great), (great + 10 ** 10, 2 * great), (great + 2 * 10 ** 10, great)],
                   front, Program(["flat", "flat"], rules), "y")

    def test_few_amounts_are_left_of_many(self):
        # Of x there are 30 ** 4 ways by its parts, all of which one other rule spares.
        rules = [summed(name, [], [1, k * 30 ** place, (29 - k) * 30 ** place])
                 for place, name in enumerate("pqrs") for k in range(30)]
        rules += [summed("x", ["p", "q", "r", "s"], [0, 0, 0]), summed("x", [], [3, 0, 0])]
        self.tells([(3, 0, 0)], front, Program(["flat"] * 3, rules), "x")

    def test_as_the_plain_way(self):
        chance = chance_of(52)
        for _ in range(150):
            program = some_program(chance, chance.randint(1, 6), chance.randint(1, 10), chance.choice([1, 3, 9]))
            fronts = plain_fronts(program)
            self.tells(fronts, all_fronts, program)
            for thing in fronts:
                self.tells(fronts[thing], front, program, thing)
            for thing, height in heights(program).items():
                self.assertEqual(height is None, fronts[thing] == [])

    def test_of_all_plans_of_things_without_rings(self):
        chance = chance_of(53)
        met = 0
        for _ in range(150):
            program = some_program(chance, 4, 6, 9)
            many = len(program.things())
            trees = trees_up_to(program, many, 1500)
            if trees is None:
                continue
            for thing, found in trees.items():
                straight = [tree_amount(program, tree) for tree in found if tree_is_straight(program, tree)]
                self.assertEqual(front(program, thing), plain_least(straight))
                for tree in found:
                    self.assertTrue(any(is_at_most(one, tree_amount(program, tree)) for one in front(program, thing)))
                met += len(found)
        self.assertGreater(met, 200)

    def test_what_is_no_thing(self):
        for thing in NO_LISTS + ["x", ["a"], ("a",), "a ", "aa", "A"]:
            if thing != "a":
                self.refuses(NoThing, "thing", thing, front, EXAMPLE, thing)


class Tables(Case):

    def test_the_example(self):
        self.tells(True, is_table, EXAMPLE, TABLE)
        self.assertIs(is_table(EXAMPLE, {"c": TABLE["c"], "a": TABLE["a"], "b": TABLE["b"]}), True)
        self.assertIs(is_table(EXAMPLE, {"c": ((9, 6), [18, 4]), "a": swapped(TABLE["a"]), "b": TABLE["b"]}), True)

    def test_any_other_object(self):
        for thing in NO_LISTS + [[], [TABLE], list(TABLE.items()), (TABLE,), [("a", TABLE["a"])]]:
            self.tells(False, is_table, EXAMPLE, thing)

    def test_wrong_dicts(self):
        for thing in TABLE:
            others = {name: rows for name, rows in TABLE.items() if name != thing}
            self.tells(False, is_table, EXAMPLE, others)
            for rows in NO_LISTS + [
                [], TABLE[thing][::-1], TABLE[thing][:1], TABLE[thing][1:], TABLE[thing] + [(99, 99)],
                TABLE[thing] + TABLE[thing][1:], TABLE[thing][:1] + [None], TABLE[thing][:1] + [TABLE[thing][1] + (0,)],
                [[TABLE[thing]]], [(0, 0)] + TABLE[thing], [(0, 99)] + TABLE[thing], dict.fromkeys(TABLE[thing]),
            ]:
                self.tells(False, is_table, EXAMPLE, dict(others, **{thing: rows}))

    def test_other_keys(self):
        self.tells(False, is_table, EXAMPLE, dict(TABLE, d=[]))
        self.assertIs(is_table(EXAMPLE, {"a": TABLE["a"], "b": TABLE["b"], "d": TABLE["c"]}), False)
        self.assertIs(is_table(EXAMPLE, {"a": TABLE["a"], "b": TABLE["b"], 3: TABLE["c"]}), False)
        self.assertIs(is_table(EXAMPLE, {"a": TABLE["a"], "b": TABLE["b"], ("c",): TABLE["c"]}), False)

    def test_bools_are_no_integers(self):
        program = Program(["flat", "flat"], [summed("x", [], [1, 0])])
        self.tells(True, is_table, program, {"x": [(1, 0)]})
        self.tells(False, is_table, program, {"x": [(True, 0)]})
        self.tells(False, is_table, program, {"x": [(1, False)]})

    def test_closed_but_not_made(self):
        program = Program(["flat"], [summed("x", ["y"], [0]), summed("y", ["x"], [0])])
        self.tells(False, is_table, program, {"x": [(0,)], "y": [(0,)]})
        self.tells(True, is_table, program, {"x": [], "y": []})
        self.tells(True, is_table, program, {"x": (), "y": []})

    def test_made_but_not_closed(self):
        program = Program(["flat"], [summed("x", [], [5]), summed("x", [], [3]), summed("y", ["x"], [1])])
        self.tells(True, is_table, program, {"x": [(3,)], "y": [(4,)]})
        self.tells(False, is_table, program, {"x": [(5,)], "y": [(6,)]})
        self.tells(False, is_table, program, {"x": [(3,)], "y": [(6,)]})
        self.tells(False, is_table, program, {"x": [(3,), (5,)], "y": [(4,), (6,)]})

    def test_no_rules(self):
        self.tells(True, is_table, Program(["flat"], []), {})
        self.tells(False, is_table, Program(["flat"], []), {"x": []})
        self.tells(False, is_table, Program(["flat"], []), [])

    def test_by_chance(self):
        chance = chance_of(531)
        for _ in range(60):
            program = some_program(chance, 4, 7, 5)
            fronts = plain_fronts(program)
            self.tells(True, is_table, program, fronts)
            thing = chance.choice(program.things())
            wrong = dict(fronts)
            wrong[thing] = fronts[thing][:-1] if fronts[thing] else [(0,) * len(program.own_sorts())]
            self.tells(False, is_table, program, wrong)


if __name__ == "__main__":
    unittest.main()
