"""Promises 5.5 and 5.6, and 5.7 as far as it tells of them: budgets and tastes."""

import unittest
from itertools import permutations, product as all_of

from anyprice.budgets import best_for, cheapest_within, plan_within
from anyprice.errors import BadBudget, BadPrices, BadTaste, NoThing, PlanError
from anyprice.fronts import front
from anyprice.plans import is_plan, plan_amount, plan_thing
from anyprice.programs import Program
from helpers import (EXAMPLE, NO_LISTS, NO_PAIRS, Case, bare_program, bowl, chance_of, is_at_most, plain_fronts, product,
                     rich_program, some_plan)

GREAT = 10 ** 18
NO_BUDGETS = NO_LISTS + [
    [], (), [None], [5], (None, None, None), [1, 2, 3], [-1, 5], (5, -1), [True, 5], [5, False], ["5", 5], "55", [[5], 5],
    [(None,), 5], [{}, None], [EXAMPLE, 5], {5: 5}, {None: 5, 6: None},
]
NO_TASTES = [None, True, False, 0, 1, -1, 10 ** 30, "", "a", "01", {}, {0: 1}, {1: 0, 0: 1}, EXAMPLE] + [
    [], (), [0], [1], (0, 0), [1, 1], [0, 2], [-1, 0], [1, 0, 2], [0, 1, 1], [True, 0], [0, True], (False, 1), ["0", "1"],
    [None, 1], [[0], [1]], [(0, 1)], [0, 1, None], [EXAMPLE, 0],
]


def fits(amount, budget):
    return all(limit is None or number <= limit for number, limit in zip(amount, budget))


def near(amounts):
    """The numbers of amounts, just below, at and just above, resource by resource, and None."""
    columns = zip(*amounts)
    return all_of(*[sorted({max(0, number + step) for number in column for step in (-1, 0, 1)}) + [None]
                    for column in columns])


class CheapestWithin(Case):

    def test_the_example(self):
        self.tells((9, 6), cheapest_within, EXAMPLE, "c", (1, 1), (None, None))
        self.tells((18, 4), cheapest_within, EXAMPLE, "c", (1, 1), (None, 5))

    def test_at_just_below_and_just_above(self):
        for budget, expected in (((18, 4), (18, 4)), ((17, 4), None), ((18, 3), None), ((19, 5), (18, 4)), ((9, 6), (9, 6)),
                                 ((9, 5), None), ((8, 6), None), ((10, 7), (9, 6)), ((0, 0), None), ((17, 6), (9, 6)),
                                 ((18, 6), (9, 6)), ((18, 5), (18, 4)), ((8, None), None), ((None, 3), None)):
            self.tells(expected, cheapest_within, EXAMPLE, "c", (1, 1), budget)

    def test_prices_tell_which(self):
        self.tells((18, 4), cheapest_within, EXAMPLE, "c", (1, 5), (None, None))
        self.tells((9, 6), cheapest_within, EXAMPLE, "c", (2, 8), (20, 20))
        self.tells((18, 4), cheapest_within, EXAMPLE, "c", (2, 10), (18, 6))

    def test_of_several_the_first_one(self):
        program = bare_program(["flat", "flat"], {"x": [(0, 6), (3, 3), (6, 0)]})
        self.tells((0, 6), cheapest_within, program, "x", (2, 2), (None, None))
        self.tells((3, 3), cheapest_within, program, "x", (1, 1), (6, 5))
        self.tells((6, 0), cheapest_within, program, "x", (1, 1), (6, 2))

    def test_prices_with_a_common_divisor(self):
        for times in (1, 6, 10 ** 5):
            self.tells((9, 6), cheapest_within, EXAMPLE, "c", (times, 4 * times), (None, None))

    def test_noughts(self):
        program = bare_program(["flat", "high", "high"], {"x": [(0, 0, 0)], "y": []})
        self.tells((0, 0, 0), cheapest_within, program, "x", (1, 1, 1), (0, 0, 0))
        self.tells(None, cheapest_within, program, "y", (1, 1, 1), (None, None, None))

    def test_by_chance(self):
        chance = chance_of(55)
        for _ in range(80):
            program = rich_program(chance, 3, 4, chance.choice([2, 9]))
            many = len(program.own_sorts())
            for thing, amounts in plain_fronts(program).items():
                prices = [chance.randint(1, 4) for _ in range(many)]
                budgets = list(near(amounts)) if amounts else [(None,) * many]
                for budget in chance.sample(budgets, min(len(budgets), 6)):
                    within = [amount for amount in amounts if fits(amount, budget)]
                    expected = min(within, key=lambda amount: (product(amount, prices), amount), default=None)
                    self.tells(expected, cheapest_within, program, thing, prices, budget)
                    self.assertEqual(plan_within(program, thing, budget) is None, not within)

    def test_no_plan_within_costs_less(self):
        chance = chance_of(551)
        for _ in range(60):
            program = rich_program(chance, 4, 6, 9)
            plan = some_plan(chance, program, 10)
            if plan is not None:
                amount, thing = plan_amount(program, plan), plan_thing(program, plan)
                prices = [chance.randint(1, 9) for _ in amount]
                best = cheapest_within(program, thing, prices, amount)
                self.assertLessEqual(product(best, prices), product(amount, prices))

    def test_great_numbers(self):
        amounts = bowl(chance_of(552), 3, 40)
        program = bare_program(["flat", "flat", "high"], {"x": amounts})
        for amount in amounts[::7]:
            prices = [number // 10 ** 12 + 1 for number in amount]
            best = min(amounts, key=lambda row: product(row, prices))
            self.tells(best, cheapest_within, program, "x", prices, (GREAT, None, 10 ** 30))
            self.tells(amount, cheapest_within, program, "x", prices, amount)
            self.tells(None, cheapest_within, program, "x", prices, [amount[0], amount[1], amount[2] - 1])


class PlanWithin(Case):

    def check(self, program, thing, budget):
        plan = self.told(plan_within, program, thing, budget)
        self.assertIs(is_plan(program, plan), True)
        self.assertEqual(plan_thing(program, plan), thing)
        self.assertTrue(fits(plan_amount(program, plan), budget))

    def test_at_just_below_and_just_above(self):
        for budget in ((18, 4), [18, 5], (19, 4), (9, 6), (10, None), (None, 4), (None, None), (18, 6), (10 ** 30, 6)):
            self.check(EXAMPLE, "c", budget)
        for budget in ((17, 5), (18, 3), (8, 6), [9, 5], (8, None), (None, 3), (0, 0)):
            self.tells(None, plan_within, EXAMPLE, "c", budget)

    def test_without_plans(self):
        program = bare_program(["flat"], {"x": []})
        self.tells(None, plan_within, program, "x", (None,))
        self.tells(None, plan_within, program, "x", (10 ** 18,))

    def test_noughts(self):
        program = bare_program(["flat", "flat"], {"x": [(0, 0)]})
        self.tells([(0, ())], plan_within, program, "x", (0, 0))

    def test_by_chance(self):
        chance = chance_of(553)
        for _ in range(80):
            program = rich_program(chance, 4, 5, 9)
            for thing, amounts in plain_fronts(program).items():
                for amount in amounts:
                    self.check(program, thing, amount)
                    self.check(program, thing, [None if chance.random() < 0.3 else number for number in amount])

    def test_the_budgets_of_a_thing(self):
        chance = chance_of(554)
        for _ in range(30):
            program = rich_program(chance, 3, 3, 4, many=2)
            one, other = chance.choice(program.things()), chance.choice(program.things())
            fronts = plain_fronts(program)
            differ = False
            for budget in all_of(range(30), repeat=2):
                had = [any(is_at_most(amount, budget) for amount in fronts[thing]) for thing in (one, other)]
                differ = differ or had[0] != had[1]
            for budget in chance.sample(list(all_of(range(12), repeat=2)), 8):
                expected = any(is_at_most(amount, budget) for amount in fronts[one])
                self.assertIs(plan_within(program, one, budget) is not None, expected)
            if all(max(amount) < 30 for amount in fronts[one] + fronts[other]):
                self.assertIs(differ, fronts[one] != fronts[other])


class Orders(Case):

    def test_the_example(self):
        self.tells((18, 4), best_for, EXAMPLE, "c", [1, 0])
        self.tells((9, 6), best_for, EXAMPLE, "c", [0, 1])

    def test_all_orders_of_three(self):
        amounts = [(0, 1, 2), (0, 2, 1), (1, 0, 2), (1, 2, 0), (2, 0, 1), (2, 1, 0)]
        program = bare_program(["flat", "flat", "high"], {"x": amounts})
        for order in permutations(range(3)):
            expected = [0, 0, 0]
            expected[order[1]], expected[order[2]] = 1, 2
            self.tells(tuple(expected), best_for, program, "x", order)

    def test_one_resource(self):
        program = bare_program(["high"], {"x": [(3,)]})
        self.tells((3,), best_for, program, "x", [0])

    def test_without_plans(self):
        program = bare_program(["flat", "flat"], {"x": []})
        self.tells(None, best_for, program, "x", [1, 0])
        self.tells(None, best_for, program, "x", sum)

    def test_by_chance(self):
        chance = chance_of(56)
        for _ in range(60):
            program = rich_program(chance, 3, 4, 9)
            order = list(range(len(program.own_sorts())))
            chance.shuffle(order)
            for thing, amounts in plain_fronts(program).items():
                expected = min(amounts, key=lambda amount: [amount[at] for at in order], default=None)
                self.tells(expected, best_for, program, thing, order)


def first_number(amount):
    return amount[0]


def nothing(amount):
    return 0


class Functions(Case):

    def test_the_least_integer(self):
        self.tells((9, 6), best_for, EXAMPLE, "c", first_number)
        self.tells((18, 4), best_for, EXAMPLE, "c", lambda amount: -amount[0])
        self.tells((9, 6), best_for, EXAMPLE, "c", sum)
        self.tells((18, 4), best_for, EXAMPLE, "c", min)

    def test_of_several_the_first_one(self):
        self.tells((9, 6), best_for, EXAMPLE, "c", nothing)
        program = bare_program(["flat", "flat"], {"x": [(0, 9), (1, 5), (2, 4), (4, 2), (5, 1), (9, 0)]})
        self.tells((1, 5), best_for, program, "x", sum)
        self.tells((2, 4), best_for, program, "x", max)

    def test_it_gets_tuples(self):
        got = []

        def taste(amount):
            got.append(amount)
            return len(got)

        self.assertEqual(best_for(EXAMPLE, "c", taste), (9, 6))
        self.assertEqual(sorted(set(got)), [(9, 6), (18, 4)])
        self.assertTrue(all(type(amount) is tuple for amount in got))

    def test_great_integers_also_below_nought(self):
        self.tells((18, 4), best_for, EXAMPLE, "c", lambda amount: -10 ** 40 * amount[0])
        self.tells((9, 6), best_for, EXAMPLE, "c", lambda amount: 10 ** 40 * amount[0])

    def test_a_method(self):
        class Taste:
            def of(self, amount):
                return amount[1]

        self.assertEqual(best_for(EXAMPLE, "c", Taste().of), (18, 4))

    def test_its_errors_come_out(self):
        def taste(amount):
            raise KeyError("taste")

        with self.assertRaises(KeyError):
            best_for(EXAMPLE, "c", taste)
        program = bare_program(["flat"], {"x": []})
        self.assertIsNone(best_for(program, "x", taste))

    def test_each_front_amount_has_a_taste_of_its_own(self):
        amounts = [(0, 9), (1, 5), (2, 4), (4, 2), (5, 1), (9, 0)]
        program = bare_program(["flat", "flat"], {"x": amounts})
        for limit in amounts:
            self.tells(limit, best_for, program, "x", lambda amount: 0 if is_at_most(amount, limit) else 1)

    def test_no_plan_has_a_lesser_one(self):
        chance = chance_of(561)
        for _ in range(60):
            program = rich_program(chance, 4, 6, 9)
            plan = some_plan(chance, program, 10)
            if plan is not None:
                weights = [chance.randint(0, 3) for _ in program.own_sorts()]

                def taste(amount):
                    return max(number * weight for number, weight in zip(amount, weights))

                best = best_for(program, plan_thing(program, plan), taste)
                self.assertIn(best, front(program, plan_thing(program, plan)))
                self.assertLessEqual(taste(best), taste(plan_amount(program, plan)))


class Refused(Case):

    def test_what_is_no_thing(self):
        for thing in NO_LISTS + ["x", ["a"], ("a",)]:
            if thing != "a":
                self.refuses(NoThing, "thing", thing, cheapest_within, EXAMPLE, thing, None, None)
                self.refuses(NoThing, "thing", thing, plan_within, EXAMPLE, thing, None)
                self.refuses(NoThing, "thing", thing, best_for, EXAMPLE, thing, None)

    def test_what_are_no_prices(self):
        for prices in NO_PAIRS:
            self.refuses(BadPrices, "prices", prices, cheapest_within, EXAMPLE, "c", prices, None)
            self.refuses(BadPrices, "prices", prices, cheapest_within, EXAMPLE, "c", prices, (None, None))

    def test_what_are_no_budgets(self):
        for budget in NO_BUDGETS:
            self.refuses(BadBudget, "budget", budget, cheapest_within, EXAMPLE, "c", (1, 1), budget)
            self.refuses(BadBudget, "budget", budget, plan_within, EXAMPLE, "c", budget)

    def test_without_plans_too(self):
        program = bare_program(["flat", "high"], {"x": []})
        self.refuses(BadPrices, "prices", 3, cheapest_within, program, "x", 3, 4)
        self.refuses(BadBudget, "budget", 4, cheapest_within, program, "x", (1, 1), 4)
        self.refuses(BadBudget, "budget", 4, plan_within, program, "x", 4)
        self.refuses(BadTaste, "taste", 4, best_for, program, "x", 4)

    def test_what_are_no_tastes(self):
        for taste in NO_TASTES:
            self.refuses(BadTaste, "taste", taste, best_for, EXAMPLE, "c", taste)

    def test_an_error_of_the_package_is_no_taste(self):
        for taste in (BadTaste(3), PlanError()):
            with self.assertRaises(BadTaste) as caught:
                best_for(EXAMPLE, "c", taste)
            self.assertIs(caught.exception.taste, taste)

    def test_orders_of_other_lengths(self):
        program = Program(["flat"], [("x", [], [1], ["sum"])])
        for taste in ([0, 1], [1], [], (0, 0)):
            self.refuses(BadTaste, "taste", taste, best_for, program, "x", taste)


if __name__ == "__main__":
    unittest.main()
