"""What the document promises over the whole program: from texts to counted answers, maps of houses, rules ahead of rows."""

import importlib
import inspect
import unittest

from anyprice.bases import Base
from anyprice.basetexts import read_base, read_tested, write_base, write_tested
from anyprice.coderuns import run_rows
from anyprice.coding import code_for
from anyprice.costs import best_amounts, best_plan, least_cost
from anyprice.errors import PlanError
from anyprice.fronts import front
from anyprice.further import least_owns
from anyprice.handed import front_rules
from anyprice.houses import House
from anyprice.hulls import hull
from anyprice.levels import level
from anyprice.maps import map_of, price_map
from anyprice.operators import tree_amount
from anyprice.plans import plan_amount
from anyprice.programs import Program
from anyprice.programtexts import read_plan, read_program, write_plan, write_program
from anyprice.questionfronts import best_tree, question_front
from anyprice.questionplans import question_program, tree_of_plan
from anyprice.tested import tested_answer
from anyprice.tops import plan_of
from anyprice.treeplans import tree_program
from anyprice.treeruns import run_tree
from anyprice.wholeplans import best_whole, whole_front, whole_program
from anyprice.wholeruns import run_whole
from anyprice.wholes import whole_amount
from helpers import Case, chance_of, is_at_most, product, rich_program
from machinery import M, T, num, var
from test_errors import ERRORS, REFUSALS, listed
from test_form import INTERFACE, METHODS
from test_questions import PAIR, PLAIN, some_base
from wholeways import SMALL, some_tested

BASE_TEXT = """table birds
columns kind age nest
indexed kind
row 1 4 7
row 2 9 7
row 1 1 8
row 3 5 9
table nests
columns nest height
indexed nest
row 7 12
row 8 3
row 9 30
"""
QUESTION_TEXT = """from b birds
from n nests
join b.nest n.nest
test b sub var age num 2
test n sub mul num 2 var height num 20
show b.kind n.height
by b.nest
"""


class Throughout(Case):

    def test_from_the_text_to_the_counted_answer(self):
        base = read_base(BASE_TEXT)
        self.assertEqual(write_base(base), BASE_TEXT)
        tested = read_tested(base, QUESTION_TEXT)
        self.assertEqual(write_tested(base, tested), QUESTION_TEXT)
        self.assertEqual(tested_answer(base, tested), [(1, 12), (2, 12), (3, 30)])
        amounts = whole_front(base, tested, M, 3)
        for prices in ((1, 1, 1), (1, 9, 1), (1, 1, 99)):
            whole = best_whole(base, tested, M, 3, prices)
            rows, amount = run_whole(base, tested, M, 3, whole)
            self.assertIn(amount, amounts)
            self.assertEqual(product(amount, prices), min(product(row, prices) for row in amounts))
            self.assertEqual(sorted((bird[0], nest[1]) for bird, nest in rows), tested_answer(base, tested))
            self.assertEqual([bird[2] for bird, _ in rows], [7, 7, 9])

    def test_the_map_of_a_house_by_costs(self):
        chance = chance_of(211)
        several = 0
        for _ in range(25):
            base = some_base(chance, 12, 0)
            tested = some_tested(chance, base, 2, 2, 3)
            house = House(base, M, 3)
            house.watch("one", tested)
            program, thing = whole_program(base, tested, M, 3)
            self.assertEqual(map_of(program, thing), price_map(house.front_now("one")))
            several += len(hull(program, thing)) > 1
            for amount, corners in map_of(program, thing).items():
                prices = tuple(map(sum, zip(*corners)))
                whole = house.whole_now("one", prices)
                self.assertEqual(whole_amount(base, tested, M, 3, whole), amount)
                self.assertEqual(product(amount, prices), least_cost(program, thing, prices))
                self.assertEqual(best_amounts(program, thing, prices), [amount])
        self.assertGreater(several, 3)

    def test_the_front_with_a_row_more(self):
        chance = chance_of(212)
        for _ in range(25):
            base = some_base(chance, 5)
            tested = some_tested(chance, base, chance.randint(1, 3), chance.randint(0, 2), 3)
            name = chance.choice("tuv")
            further = base.with_row(name, [chance.randint(0, 2) for _ in base.all_tables()[name][0]])
            before, behind = whole_front(base, tested, SMALL, 3), whole_front(further, tested, SMALL, 3)
            for amount in behind:
                self.assertTrue(any(is_at_most(row, amount) for row in before))
            trees, more = question_front(base, tested[0]), question_front(further, tested[0])
            for amount in more:
                self.assertTrue(any(is_at_most(row, amount) for row in trees))

    def test_programs_of_all_houses_go_through_texts(self):
        tested = (PLAIN, [("a", ("sub", var("k"), num(2)))])
        for program, thing in ((tree_program(M, T), "r0."), question_program(PAIR, PLAIN), whole_program(PAIR, tested, M, 2)):
            again = read_program(write_program(program))
            self.assertTrue(again == program)
            for amount in front(program, thing):
                plan = plan_of(program, thing, amount)
                self.assertEqual(read_plan(again, write_plan(plan)), plan)
                self.assertEqual(plan_amount(again, plan), amount)

    def test_a_front_handed_on_to_a_greater_program(self):
        # What a test's code takes, asked by a rule that runs it nine times; its size counts once.
        program = tree_program(M, T)
        rules = front_rules(program, "r0.", "code")
        whole = Program(["flat", "flat", "high"], rules + [("all", [("code", 9, (0, 0, 0))], (9, 0, 0), ("times", "sum", "most"))])
        self.assertEqual(front(whole, "all"), [(9 + 90, 8, 3), (9 + 99, 8, 2)])
        self.assertEqual(level(whole, "all", (2,)), [(108, 8)])

    def test_what_one_more_instruction_must_cost(self):
        # A further rule for T in a register by an instruction of all three in memory.
        program = tree_program(M, T)
        sketch = ("r0.", [("m0", 1, (0, 0, 0)), ("m10", 1, (0, 0, 0)), ("m11", 1, (0, 0, 0))], ("times", "sum", "most"))
        self.assertEqual(least_owns(program, sketch), [(10, 8, 3), (11, 8, 2)])

    def test_best_trees_at_prices_are_best_plans(self):
        program, thing = question_program(PAIR, PLAIN)
        for prices in ((1, 1, 1), (1, 1, 2), (1, 1, 3), (9, 1, 1)):
            amount, tree = best_tree(PAIR, PLAIN, prices, (None, None, None))
            self.assertEqual(product(amount, prices), least_cost(program, thing, prices))
            other = tree_of_plan(PAIR, PLAIN, best_plan(program, thing, prices))
            self.assertEqual(product(tree_amount(PAIR, PLAIN, other), prices), product(amount, prices))
            self.assertEqual(run_tree(PAIR, PLAIN, tree)[1], amount)

    def test_programs_by_chance_go_through_texts(self):
        chance = chance_of(213)
        for _ in range(40):
            program = rich_program(chance, 5, 5, 9)
            again = read_program(write_program(program))
            for thing in program.things():
                self.assertEqual(front(again, thing), front(program, thing))

    def test_runs_of_code_count_what_plans_tell(self):
        for amount in front(tree_program(M, T), "r0."):
            self.assertEqual(run_rows(M, code_for(M, T, amount), {"a": 1, "b": 2, "c": 3})[1], amount)


class Names(unittest.TestCase):
    """Parameters can be passed by the names that are shown, in any order: nothing else may be asked for."""

    def test_no_parameter_is_for_its_place_alone(self):
        for file, names in INTERFACE.items():
            for name in names:
                self.check(getattr(importlib.import_module("anyprice." + file), name))
        for (file, name), methods in METHODS.items():
            for method in methods:
                self.check(vars(getattr(importlib.import_module("anyprice." + file), name))[method])

    def check(self, call):
        for parameter in inspect.signature(call).parameters.values():
            self.assertEqual(parameter.kind, parameter.POSITIONAL_OR_KEYWORD)

    def test_all_that_the_interface_lists_is_here(self):
        self.assertEqual(sum(len(names) for names in INTERFACE.values()), 158)
        self.assertEqual(len(listed(ERRORS)) + len(listed(REFUSALS)), 57)
        self.assertEqual(sum(len(methods) for methods in METHODS.values()), 8 + 12 + 4 + 4 + 4 + 17)

    def test_errors_are_caught_together(self):
        for call in (lambda: Base(None), lambda: House(PAIR, None, 1), lambda: read_base(None), lambda: run_rows(M, [], {})):
            with self.assertRaises(PlanError):
                call()


if __name__ == "__main__":
    unittest.main()
