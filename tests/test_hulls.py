"""Promises 6.3 and 6.4, and 6.5 as far as it tells of them: alone, beside, never."""

import unittest
from itertools import product as all_of

from anyprice.costs import least_cost
from anyprice.errors import NoAmount, NoThing
from anyprice.fronts import all_fronts, front
from anyprice.hulls import hull, mix_against, prices_for, standing
from anyprice.mixes import is_mix_for, mix_sum
from anyprice.programs import Program
from helpers import (EXAMPLE, NO_AMOUNTS, NO_LISTS, Case, bare_program, bowl, chance_of, flat_front, plain_hull, plain_least,
                     plain_made, plain_standing, product, rich_program, some_front)
from test_costs import STAIRS

GREAT = 10 ** 18


class Hulls(Case):

    def check(self, program, thing):
        """That all is as it must be of each front amount, shown by sums alone."""
        amounts = front(program, thing)
        found = {}
        for amount in amounts:
            word = self.told(standing, program, thing, amount)
            prices = self.told(prices_for, program, thing, amount)
            mix = self.told(mix_against, program, thing, amount)
            others = [other for other in amounts if other != amount]
            if word == "never":
                self.assertIsNone(prices)
            else:
                self.assertGreater(min(prices), 0)
                saved = [product(other, prices) - product(amount, prices) for other in others]
                self.assertGreaterEqual(min(saved, default=1), 1 if word == "alone" else 0)
            if word == "alone":
                self.assertIsNone(mix)
            else:
                self.assertIs(is_mix_for(amount, others, mix, word == "never"), True)
                self.assertLessEqual(len(mix), len(amount))
            if word == "beside":
                row, total = mix_sum(mix)
                self.assertEqual(row, tuple(number * total for number in amount))
            found[amount] = word
        self.tells([amount for amount in amounts if found[amount] == "alone"], hull, program, thing)
        return found

    def test_the_example(self):
        self.tells([(0, 6), (6, 0)], hull, STAIRS, "x")
        self.tells([(1, 12), (13, 0)], hull, STAIRS, "y")
        for amount, word, prices in (((0, 6), "alone", (2, 1)), ((6, 0), "alone", (1, 2)), ((3, 3), "beside", (1, 1)),
                                     ((2, 5), "never", None)):
            self.tells(word, standing, STAIRS, "x", amount)
            self.tells(prices, prices_for, STAIRS, "x", amount)
        self.tells(None, mix_against, STAIRS, "x", (0, 6))
        self.tells({(0, 6): 1, (6, 0): 1}, mix_against, STAIRS, "x", [3, 3])
        self.tells({(0, 6): 2, (6, 0): 1}, mix_against, STAIRS, "x", (2, 5))
        self.assertEqual(self.check(STAIRS, "x")[(2, 5)], "never")
        self.assertEqual(self.check(STAIRS, "y"), {(1, 12): "alone", (5, 10): "never", (7, 6): "beside", (13, 0): "alone"})

    def test_the_sum_of_corners_in_lowest_terms(self):
        program = bare_program(["flat", "flat", "flat"], {"x": [(0, 0, 2), (0, 3, 0), (2, 0, 0)]})
        self.tells((4, 3, 3), prices_for, program, "x", (0, 0, 2))
        self.tells((2, 1, 2), prices_for, program, "x", (0, 3, 0))
        self.tells((3, 3, 4), prices_for, program, "x", (2, 0, 0))

    def test_one_amount(self):
        for many in (1, 2, 3):
            program = bare_program(["flat"] * many, {"x": [(0,) * many]})
            self.tells("alone", standing, program, "x", (0,) * many)
            self.tells((1,) * many, prices_for, program, "x", (0,) * many)
            self.tells([(0,) * many], hull, program, "x")

    def test_without_plans(self):
        self.tells([], hull, bare_program(["flat", "high"], {"x": []}), "x")

    def test_beside_on_a_side_of_three(self):
        # The middle one is on the side of three, another one on the edge of two of these, a third one within none.
        amounts = [(0, 0, 6), (0, 6, 0), (6, 0, 0), (2, 2, 2), (3, 3, 0), (2, 2, 3)]
        program = bare_program(["flat"] * 3, {"x": amounts[:5]})
        self.assertEqual(self.check(program, "x"), {(0, 0, 6): "alone", (0, 6, 0): "alone", (6, 0, 0): "alone",
                                                    (2, 2, 2): "beside", (3, 3, 0): "beside"})
        program = bare_program(["flat"] * 3, {"x": amounts[:3] + amounts[4:]})
        self.assertEqual(self.check(program, "x")[(2, 2, 3)], "never")

    def test_the_rim_alone_is_not_enough(self):
        # At (1, 0) the second one costs no more than the first one; above 0 it never does.
        program = bare_program(["flat"] * 3, {"x": [(0, 0, 9), (0, 9, 0), (1, 5, 5), (0, 5, 6)]})
        self.assertEqual(self.check(program, "x"), {(0, 0, 9): "alone", (0, 5, 6): "never", (0, 9, 0): "alone",
                                                    (1, 5, 5): "never"})

    def test_small_ones_all_of_them(self):
        rows = list(all_of(range(4), repeat=2))
        chance = chance_of(63)
        for _ in range(70):
            amounts = plain_least(chance.sample(rows, 5))
            self.check_words(amounts)

    def check_words(self, amounts):
        found = self.check(bare_program(["flat", "high"], {"x": amounts}), "x")
        for amount in amounts:
            self.assertEqual(found[amount], plain_standing(amount, amounts)[0])
            self.assertEqual(found[amount], self.by_trying(amount, amounts))

    def by_trying(self, amount, amounts):
        """The word by trying prices: corners of so small amounts have prices to 3, sums of two of them to 6."""
        words = []
        for prices in all_of(range(1, 7), repeat=2):
            saved = [product(other, prices) - product(amount, prices) for other in amounts if other != amount]
            words.append("alone" if min(saved, default=1) > 0 else "beside" if min(saved) == 0 else "never")
        return sorted(words)[0]

    def test_by_chance(self):
        chance = chance_of(631)
        met = {"alone": 0, "beside": 0, "never": 0}
        for _ in range(80):
            many, greatest = chance.choice([1, 2, 3, 3]), chance.choice([3, 4, 5, 30])
            make = some_front if greatest == 30 else flat_front
            amounts = make(chance, many, 10, greatest)
            found = self.check(bare_program([chance.choice(["flat", "high"]) for _ in range(many)], {"x": amounts}), "x")
            for amount, word in found.items():
                self.assertEqual((word, prices_for(bare_program(["flat"] * many, {"x": amounts}), "x", amount)),
                                 plain_standing(amount, amounts))
                met[word] += 1
        self.assertGreater(min(met.values()), 10)

    def test_forty_great_amounts(self):
        for many in (2, 3):
            amounts = bowl(chance_of(632), many, 20)
            inner = [tuple((one + other) // 2 + 5 for one, other in zip(*pair)) for pair in zip(amounts, amounts[7:])]
            amounts = plain_least(amounts + inner)
            program = bare_program(["flat", "flat", "high"][:many], {"x": amounts})
            found = self.check(program, "x")
            self.assertGreater(list(found.values()).count("alone"), 15)
            self.assertGreater(list(found.values()).count("never"), 5)

    def test_forty_amounts_on_one_side(self):
        amounts = [(k * GREAT, (39 - k) * GREAT, 7) for k in range(40)]
        found = self.check(bare_program(["flat"] * 3, {"x": amounts}), "x")
        self.assertEqual([amount for amount in found if found[amount] == "alone"], [amounts[0], amounts[-1]])
        self.assertEqual(set(list(found.values())[1:-1]), {"beside"})

    def test_the_least_cost_is_that_of_a_hull_amount(self):
        chance = chance_of(633)
        for _ in range(60):
            program = rich_program(chance, 3, 4, 9)
            prices = [chance.randint(1, 9) for _ in program.own_sorts()]
            for thing in program.things():
                amounts = hull(program, thing)
                self.assertEqual(least_cost(program, thing, prices), min([product(a, prices) for a in amounts], default=None))


class ByRules(Case):

    def test_where_no_rule_says_most(self):
        chance = chance_of(64)
        for _ in range(80):
            program = rich_program(chance, 3, 4, 9, words=("times", "sum"))
            hulls = {thing: hull(program, thing) for thing in program.things()}
            made = {thing: [] for thing in hulls}
            for rule in program.all_rules():
                for amounts in all_of(*[hulls[part[0]] for part in rule[1]]):
                    made[rule[0]].append(plain_made(rule, amounts))
            for thing in hulls:
                self.assertEqual(hulls[thing], plain_hull(made[thing]))

    def test_with_most_it_is_not_so(self):
        sums = ("sum", "sum")
        program = Program(["flat", "high"], [("x", [], own, sums) for own in ((0, 4), (3, 3), (4, 0))] + [
            ("y", [("x", 1, (0, 0))], (0, 3), ("sum", "most"))])
        self.tells("never", standing, program, "x", (3, 3))
        self.tells("alone", standing, program, "y", (3, 3))
        self.tells([(0, 4), (3, 3)], front, program, "y")
        self.assertEqual(prices_for(program, "x", (3, 3)), None)
        self.assertLess(product((3, 3), (1, 4)), min(product((0, 4), (1, 4)), product((4, 3), (1, 4))))


class Refused(Case):
    calls = (standing, prices_for, mix_against)

    def test_what_is_no_thing(self):
        for thing in NO_LISTS + ["x", ["a"], ("a",)]:
            if thing != "a":
                self.refuses(NoThing, "thing", thing, hull, EXAMPLE, thing)
                for call in self.calls:
                    self.refuses(NoThing, "thing", thing, call, EXAMPLE, thing, None)

    def test_what_is_no_amount_of_the_front(self):
        others = [(12, 6), (21, 4), (9,), (9, 6, 0), (9, 5), (9, 7), (10, 6), (0, 0), (5, 1), (10 ** 30, 4), ((9, 6),),
                  {(9, 6): 1}, "96"]
        for amount in NO_AMOUNTS + others:
            for call in self.calls:
                self.refuses(NoAmount, "amount", amount, call, EXAMPLE, "c", amount)

    def test_bools_are_no_integers(self):
        program = bare_program(["flat", "flat"], {"x": [(1, 0)]})
        for call in self.calls:
            for amount in ((True, 0), [1, False], (True, False)):
                self.refuses(NoAmount, "amount", amount, call, program, "x", amount)

    def test_without_plans(self):
        program = bare_program(["flat"], {"x": []})
        for call in self.calls:
            self.refuses(NoAmount, "amount", (0,), call, program, "x", (0,))

    def test_all_amounts_of_the_front_are_taken(self):
        for thing, amounts in all_fronts(EXAMPLE).items():
            for amount in amounts:
                for call in self.calls:
                    call(EXAMPLE, thing, list(amount))


if __name__ == "__main__":
    unittest.main()
