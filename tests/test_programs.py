"""Promises 4.1 and 4.2: rules, programs, and what a rule makes."""

import unittest

from anyprice.errors import BadAmount, BadAmounts, BadNumber, BadRule, BadSorts
from anyprice.programs import Program, is_rule, made_of
from helpers import (EXAMPLE, HOW, NO_AMOUNTS, NO_INTEGERS, NO_LISTS, NO_NAMES, NO_NUMBERS, Case, chance_of, plain_made,
                     some_function, some_program)

SORTS = ["flat", "high"]
NO_SORTS = NO_LISTS + [[], (), ["flat"] * 4, ["Flat"], ["flat", "low"], ["flat", None], [["flat"]], ["flat high"], [""],
                       [True], ["times"], [EXAMPLE], [some_function], [{}]]
# Own amounts and extras of two resources that are none.
NO_OWNS = NO_AMOUNTS + [[1], (1, 2, 3), [1, -1], (True, 0)]
RULE = ("c", [("a", 1, (0, 0)), ("b", 2, [0, 5])], (0, 3), ["times", "most"])
NO_RULES = NO_LISTS + [
    [], RULE[:3], RULE + (1,), (RULE,), ["c", "a", (0, 3), HOW], ["c", {}, (0, 3), HOW], ["c", None, (0, 3), HOW],
] + [(name, [], (0, 0), HOW) for name in NO_NAMES] + [("c", [(name, 1, (0, 0))], (0, 0), HOW) for name in NO_NAMES] + [
    ("c", [("a", times, (0, 0))], (0, 0), HOW) for times in NO_NUMBERS + [0]
] + [("c", [], own, HOW) for own in NO_OWNS] + [("c", [("a", 1, extra)], (0, 0), HOW) for extra in NO_OWNS] + [
    ("c", [], (0, 0), how)
    for how in NO_LISTS + [[], ["times"], ["times"] * 3, ["most", "most"], ["times", "Sum"], ["times", None], [[], []],
                           ["times", ["sum"]], ["times", "flat"], ["timessum", "sum"], ["", "sum"]]
] + [
    ("c", [("a", 1, (1, 0))], (0, 0), HOW), ("c", [("a", 1, (0, 1))], (0, 0), ("times", "times")),
    ("c", [("a", 1, (0, 1))], (0, 0), ("times", "sum")), ("c", [("a", 1, (0, 0)), ("a", 1)], (0, 0), HOW),
    ("c", [("a", 1, (0, 0), 1)], (0, 0), HOW), ("c", ["a"], (0, 0), HOW), ("c", [None], (0, 0), HOW),
    ("c", [("a", 1, (0, 0)), ("a", 1, (0, 0)), ("a", 1, (0, 0)), []], (0, 0), HOW), ("c", ("a", 1, (0, 0)), (0, 0), HOW),
]


class IsRule(Case):

    def test_rules(self):
        for rule in (RULE, list(RULE), ("a", (), (0, 0), HOW), ("-", [], [10 ** 6, 0], ("sum", "times")),
                     ("a" * 24, [], (0, 0), ("sum", "most")), ("0.9-z", [("x.1", 10 ** 4, (0, 10 ** 6))], (0, 0), HOW),
                     ("a", [("a", 1, (0, 0)), ("a", 1, (0, 0))], (0, 0), HOW)):
            self.tells(True, is_rule, SORTS, rule)

    def test_one_and_three_resources(self):
        self.tells(True, is_rule, ["flat"], ("a", [("b", 2, [0])], [1], ["sum"]))
        self.tells(True, is_rule, ["high"], ("a", [("b", 2, [7])], [1], ["most"]))
        self.tells(False, is_rule, ["flat"], ("a", [("b", 2, [0])], [1], ["most"]))
        self.tells(True, is_rule, ["high", "flat", "high"], ("a", [], [1, 2, 3], ["most", "sum", "times"]))
        self.tells(False, is_rule, ["high", "flat", "high"], ("a", [], [1, 2, 3], ["most", "most", "most"]))
        self.tells(False, is_rule, ["high", "flat", "high"], RULE)

    def test_any_other_object(self):
        for thing in NO_RULES:
            self.tells(False, is_rule, SORTS, thing)

    def test_what_are_no_sorts(self):
        for thing in NO_SORTS:
            self.refuses(BadSorts, "sorts", thing, is_rule, thing, RULE)
            self.refuses(BadSorts, "sorts", thing, is_rule, thing, None)


class Programs(Case):

    def test_what_it_tells(self):
        program = Program(SORTS, [RULE, ["a", (), [1, 2], ("sum", "times")]])
        self.tells(["flat", "high"], program.own_sorts)
        self.tells([
            ("c", (("a", 1, (0, 0)), ("b", 2, (0, 5))), (0, 3), ("times", "most")), ("a", (), (1, 2), ("sum", "times")),
        ], program.all_rules)
        self.tells(["a", "b", "c"], program.things)
        self.assertEqual(len(program), 2)

    def test_no_rules(self):
        program = Program(("high",), ())
        self.tells(["high"], program.own_sorts)
        self.tells([], program.all_rules)
        self.tells([], program.things)
        self.assertEqual(len(program), 0)

    def test_things_ascending_once(self):
        rules = [("z", [("b", 1, (0,)), ("b", 2, (0,))], (0,), ["sum"]), ("b", [], (0,), ["sum"]), ("a.", [], (0,), ["sum"]),
                 ("a-", [("z", 1, (0,))], (0,), ["sum"])]
        self.tells(["a-", "a.", "b", "z"], Program(["flat"], rules).things)

    def test_parameters(self):
        self.assertEqual(Program(rules=[RULE], sorts=SORTS), Program(tuple(SORTS), (RULE,)))

    def test_later_changes_have_no_effect(self):
        sorts, extra, own, how = ["flat", "high"], [0, 5], [0, 3], ["times", "most"]
        parts = [["a", 1, extra]]
        rules = [["c", parts, own, how]]
        program = Program(sorts, rules)
        rules_then = program.all_rules()
        sorts[0], extra[1], own[0], how[0] = "high", 6, 9, "sum"
        parts[0][1] = 7
        parts.append(["b", 1, [0, 0]])
        rules.append(rules[0])
        self.assertEqual(program.all_rules(), rules_then)
        self.assertEqual(rules_then, [("c", (("a", 1, (0, 5)),), (0, 3), ("times", "most"))])
        self.assertEqual(program.own_sorts(), ["flat", "high"])
        self.assertEqual(program.things(), ["a", "c"])

    def test_what_is_put_in_later_is_not_kept_either(self):
        own, rule = [4, 4], ["a", [], [1, 1], ["sum", "sum"]]
        other, longer = EXAMPLE.with_own(0, own), EXAMPLE.with_rule(0, rule)
        own[0], rule[2][0] = 5, 5
        self.assertEqual(other.all_rules()[0][2], (4, 4))
        self.assertEqual(longer.all_rules()[0][2], (1, 1))

    def test_many_things_and_rules(self):
        rules = [(f"t{number}", [(f"t{number + 1}", 1, (0,))], (1,), ["sum"]) for number in range(119)]
        program = Program(["flat"], rules + rules + rules[:62])
        self.assertEqual((len(program.things()), len(program)), (120, 300))

    def test_what_are_no_sorts(self):
        for thing in NO_SORTS:
            self.refuses(BadSorts, "sorts", thing, Program, thing, [RULE])
            self.refuses(BadSorts, "sorts", thing, Program, thing, None)

    def test_what_are_no_rules(self):
        for thing in NO_LISTS:
            self.refuses(BadRule, "index", 0, Program, SORTS, thing)
        for thing in NO_RULES:
            self.refuses(BadRule, "index", 0, Program, SORTS, [thing])
            self.refuses(BadRule, "index", 2, Program, SORTS, [RULE, ("a", [], [1, 2], HOW), thing, RULE, thing])


class Equal(Case):

    def test_equal_if_sorts_and_rules_are(self):
        self.assertTrue(Program(["flat"], [("a", [], [1], ["sum"])]) == Program(("flat",), (["a", (), (1,), ("sum",)],)))
        self.assertFalse(Program(["flat"], [("a", [], [1], ["sum"])]) != Program(("flat",), (["a", (), (1,), ("sum",)],)))

    def test_unlike(self):
        program = Program(["high"], [("a", [], [1], ["sum"]), ("b", [], [1], ["sum"])])
        rules = program.all_rules()
        for other in (Program(["flat"], rules), Program(["high"], rules[::-1]), Program(["high"], rules[:1]),
                      Program(["high"], rules + rules[:1]), program.with_own(0, (2,)), Program(["high"], [])):
            self.assertFalse(program == other)
            self.assertTrue(program != other)

    def test_nothing_else_is_equal(self):
        for thing in NO_LISTS + [[], EXAMPLE.all_rules(), (EXAMPLE.own_sorts(), EXAMPLE.all_rules())]:
            if thing is not EXAMPLE:
                self.assertFalse(EXAMPLE == thing)
                self.assertFalse(thing == EXAMPLE)
                self.assertTrue(EXAMPLE != thing)


class OtherPrograms(Case):

    def test_with_rule(self):
        rules = EXAMPLE.all_rules()
        for number in range(6):
            further = self.told(EXAMPLE.with_rule, number, RULE)
            self.assertEqual(further.all_rules(), rules[:number] + [Program(SORTS, [RULE]).all_rules()[0]] + rules[number:])
            self.assertEqual(further.own_sorts(), SORTS)
        self.assertEqual(EXAMPLE.all_rules(), rules)
        self.assertEqual(Program(["flat"], []).with_rule(0, ("a", [], [1], ["sum"])).things(), ["a"])

    def test_without_rule(self):
        rules = EXAMPLE.all_rules()
        for number in range(5):
            self.assertEqual(self.told(EXAMPLE.without_rule, number).all_rules(), rules[:number] + rules[number + 1:])
        self.assertEqual(EXAMPLE.all_rules(), rules)

    def test_with_own(self):
        rules = EXAMPLE.all_rules()
        for number in range(5):
            changed = self.told(EXAMPLE.with_own, number, [7, 8])
            head, parts, _, how = rules[number]
            self.assertEqual(changed.all_rules(), rules[:number] + [(head, parts, (7, 8), how)] + rules[number + 1:])
        self.assertEqual(EXAMPLE.all_rules(), rules)

    def test_what_is_no_number(self):
        for thing in NO_NUMBERS + [5, 6, 10 ** 30]:
            self.refuses(BadNumber, "number", thing, EXAMPLE.without_rule, thing)
            self.refuses(BadNumber, "number", thing, EXAMPLE.with_own, thing, (1, 2))
            self.refuses(BadNumber, "number", thing, EXAMPLE.with_own, thing, None)
            if thing != 5:
                self.refuses(BadNumber, "number", thing, EXAMPLE.with_rule, thing, RULE)
                self.refuses(BadNumber, "number", thing, EXAMPLE.with_rule, thing, None)
        self.refuses(BadNumber, "number", 0, Program(SORTS, []).without_rule, 0)

    def test_what_is_no_rule(self):
        for thing in NO_RULES:
            self.refuses(BadRule, "index", 0, EXAMPLE.with_rule, 3, thing)

    def test_what_is_no_amount(self):
        for thing in NO_OWNS:
            self.refuses(BadAmount, "amount", thing, EXAMPLE.with_own, 3, thing)


class MadeOf(Case):
    sorts = ["high", "high", "high"]

    def program(self, how, extra=(0, 0, 0)):
        return Program(self.sorts, [("a", [("b", 3, extra), ("c", 2, (0, 0, 0))], (5, 6, 7), how)])

    def test_times_sum_and_most(self):
        amounts = [(1, 2, 3), (10, 20, 30)]
        self.tells((28, 52, 76), made_of, self.program(["times"] * 3), 0, amounts)
        self.tells((16, 28, 40), made_of, self.program(["sum"] * 3), 0, amounts)
        self.tells((10, 20, 30), made_of, self.program(["most"] * 3), 0, amounts)
        self.tells((28, 28, 30), made_of, self.program(["times", "sum", "most"]), 0, amounts)

    def test_most_adds_extras_and_knows_its_own(self):
        self.tells((13, 24, 30), made_of, self.program(["most"] * 3, (12, 22, 1)), 0, [(1, 2, 3), (10, 20, 30)])
        self.tells((5, 6, 7), made_of, self.program(["most"] * 3, (1, 1, 1)), 0, [(1, 2, 3), (0, 0, 0)])

    def test_without_parts(self):
        self.tells((2, 4), made_of, EXAMPLE, 1, [])

    def test_one_thing_twice(self):
        program = Program(["flat"], [("a", [("b", 2, (0,)), ("b", 3, (0,))], (1,), ["times"])])
        self.tells((1 + 2 * 10 + 3 * 100,), made_of, program, 0, [(10,), (100,)])

    def test_numbers_at_the_limits(self):
        program = Program(["flat"], [("a", [("b", 10 ** 4, (0,))], (10 ** 6,), ["times"])])
        self.tells((10 ** 6 + 10 ** 4 * (10 ** 18 - 1),), made_of, program, 0, [(10 ** 18 - 1,)])

    def test_as_the_plain_way_and_at_least_each_part(self):
        chance = chance_of(42)
        for _ in range(60):
            program = some_program(chance, 4, 6, 9)
            many = len(program.own_sorts())
            for number, rule in enumerate(program.all_rules()):
                amounts = [[chance.randint(0, 20) for _ in range(many)] for _ in rule[1]]
                made = self.told(made_of, program, number, amounts)
                self.assertEqual(made, plain_made(rule, amounts))
                for amount in amounts:
                    self.assertTrue(all(number <= limit for number, limit in zip(amount, made)))

    def test_what_is_no_number(self):
        for thing in NO_NUMBERS + [5, 10 ** 30]:
            self.refuses(BadNumber, "number", thing, made_of, EXAMPLE, thing, [])
            self.refuses(BadNumber, "number", thing, made_of, EXAMPLE, thing, None)

    def test_the_first_thing_that_is_no_amount(self):
        for thing in NO_OWNS:
            self.refuses(BadAmounts, "index", 0, made_of, EXAMPLE, 3, [thing, (1, 1)])
            self.refuses(BadAmounts, "index", 1, made_of, EXAMPLE, 3, [(1, 1), thing, thing])
            self.refuses(BadAmounts, "index", 0, made_of, EXAMPLE, 3, [thing])

    def test_one_too_many(self):
        self.refuses(BadAmounts, "index", 2, made_of, EXAMPLE, 3, [(1, 1), [1, 1], (1, 1), (1, 1)])
        self.refuses(BadAmounts, "index", 0, made_of, EXAMPLE, 0, [(1, 1)])

    def test_too_few(self):
        self.refuses(BadAmounts, "index", 1, made_of, EXAMPLE, 3, [(1, 1)])
        self.refuses(BadAmounts, "index", 0, made_of, EXAMPLE, 3, [])

    def test_no_list(self):
        for thing in NO_LISTS:
            self.refuses(BadAmounts, "index", 0, made_of, EXAMPLE, 3, thing)
            self.refuses(BadAmounts, "index", 0, made_of, EXAMPLE, 0, thing)

    def test_bools_are_no_numbers(self):
        self.assertIn(True, NO_INTEGERS)
        self.refuses(BadNumber, "number", True, made_of, EXAMPLE, True, [])
        self.refuses(BadAmounts, "index", 0, made_of, EXAMPLE, 2, [(True, 0)])


if __name__ == "__main__":
    unittest.main()
