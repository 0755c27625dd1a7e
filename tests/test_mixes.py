"""Promises 3.3 and 3.5: mixes, and just one of both."""

import unittest
from itertools import product as all_of

from anyprice.errors import BadAmount, BadAmounts, BadMix
from anyprice.mixes import is_mix, is_mix_for, mix_for, mix_sum
from anyprice.pieces import corners_where, inside
from anyprice.rows import cost
from helpers import NO_AMOUNTS, NO_LISTS, NO_NUMBERS, Case, chance_of, product

GREAT = 10 ** 18 - 1
NO_MIXES = [thing for thing in NO_LISTS if not isinstance(thing, dict)] + [
    {}, [], [((1, 2), 1)], {"a": 1}, {1: 1}, {(): 1}, {(1, 2, 3, 4): 1}, {(1, -1): 1}, {(True, 1): 1}, {("1",): 1},
    {None: 1}, {(1, 2): 0}, {(1, 2): -1}, {(1, 2): True}, {(1, 2): None}, {(1, 2): "1"}, {(1, 2): [1]},
    {(1, 2): 1, (1,): 1}, {(1,): 1, (1, 2): 1}, {(1, 2): 1, (2, 1): 0}, {(1, 2): 1, "b": 1}, {5: 1, (1, 2): 1},
    {(1, (2,)): 1}, {((1, 2), (2, 1)): 1}, {True: 1}, {(1, 2): {(1, 2): 1}},
]


class IsMix(Case):

    def test_mixes(self):
        for mix in ({(1,): 1}, {(0, 0): 5}, {(1, 2): 1, (4, 0): 2}, {(1, 2, 3): GREAT, (0, 0, 0): 1}):
            self.tells(True, is_mix, mix)

    def test_any_other_object(self):
        for thing in NO_MIXES:
            self.tells(False, is_mix, thing)


class MixSum(Case):

    def test_what_is_added_and_the_weights(self):
        self.tells(((9, 2), 3), mix_sum, {(1, 2): 1, (4, 0): 2})
        self.tells(((0,), 7), mix_sum, {(0,): 7})
        self.tells(((3, 5, 7), 3), mix_sum, {(1, 2, 3): 2, (1, 1, 1): 1})
        self.tells(((GREAT * GREAT, 0), GREAT + 1), mix_sum, {(0, 0): 1, (GREAT, 0): GREAT})

    def test_any_other_object(self):
        for thing in NO_MIXES:
            self.refuses(BadMix, "mix", thing, mix_sum, thing)


class IsMixFor(Case):
    others = [(0, 5), (1, 2), (4, 0)]

    def test_at_most(self):
        self.tells(True, is_mix_for, (3, 1), self.others, {(1, 2): 1, (4, 0): 2})
        self.tells(True, is_mix_for, (3, 1), self.others, {(1, 2): 1, (4, 0): 2}, True)
        self.tells(False, is_mix_for, (3, 1), self.others, {(1, 2): 2, (4, 0): 1})
        self.tells(False, is_mix_for, (3, 1), self.others, {(4, 0): 3})

    def test_equal_is_at_most_and_not_less(self):
        others = [(0, 6), (6, 0)]
        self.tells(True, is_mix_for, (3, 3), others, {(0, 6): 2, (6, 0): 2})
        self.tells(True, is_mix_for, (3, 3), others, {(0, 6): 2, (6, 0): 2}, False)
        self.tells(False, is_mix_for, (3, 3), others, {(0, 6): 2, (6, 0): 2}, True)
        self.tells(True, is_mix_for, (3, 4), others, {(0, 6): 2, (6, 0): 2}, True)
        self.tells(True, is_mix_for, (4, 3), others, {(0, 6): 2, (6, 0): 2}, True)

    def test_of_the_others_alone(self):
        self.tells(False, is_mix_for, (3, 3), [(0, 6)], {(1, 1): 1})
        self.tells(False, is_mix_for, (3, 3), [(0, 6), (2, 2)], {(2, 2): 1, (1, 1): 1})
        self.tells(False, is_mix_for, (3, 3), [], {(2, 2): 1})

    def test_unlike_the_target(self):
        self.tells(False, is_mix_for, (3, 3), [(3, 3), (0, 0)], {(3, 3): 1})
        self.tells(False, is_mix_for, (3, 3), [(3, 3), (0, 0)], {(3, 3): 1, (0, 0): 1})
        self.tells(True, is_mix_for, (3, 3), [(3, 3), (0, 0)], {(0, 0): 1}, True)

    def test_of_another_length(self):
        self.tells(False, is_mix_for, (3, 3), [(3, 2)], {(3,): 1})

    def test_more_amounts_than_numbers(self):
        mix = {(0, 4): 1, (1, 3): 1, (2, 2): 1, (3, 1): 1}
        self.tells(True, is_mix_for, (2, 3), list(mix), mix)

    def test_any_object(self):
        for thing in NO_MIXES:
            self.tells(False, is_mix_for, (3, 1), self.others, thing)
            self.tells(False, is_mix_for, (3, 1), self.others, thing, True)

    def test_parameters_by_name(self):
        self.assertIs(is_mix_for(less=True, thing={(1,): 1}, others=[(1,)], target=(2,)), True)
        self.assertIs(is_mix_for((3, 3), others=[(0, 6), (6, 0)], thing={(0, 6): 1, (6, 0): 1}, less=True), False)

    def test_wrong_amounts(self):
        for thing in NO_AMOUNTS:
            self.refuses(BadAmount, "amount", thing, is_mix_for, thing, None, None)
            self.refuses(BadAmount, "amount", thing, mix_for, thing, None)
            self.refuses(BadAmounts, "index", 0, is_mix_for, (3, 1), [thing], None)
            self.refuses(BadAmounts, "index", 1, mix_for, (3, 1), [(1, 2), thing, thing], True)
        for thing in NO_LISTS:
            self.refuses(BadAmounts, "index", 0, is_mix_for, (3, 1), thing, {(1, 2): 1})
            self.refuses(BadAmounts, "index", 0, mix_for, (3, 1), thing)

    def test_others_that_are_not_as_long(self):
        self.refuses(BadAmounts, "index", 1, is_mix_for, (3, 1), [(1, 2), (1,), (1, 2, 3)], {(1, 2): 1})
        self.refuses(BadAmounts, "index", 0, mix_for, (3, 1), [(1, 2, 3)])


class MixFor(Case):

    def one_of_both(self, target, others, less):
        """The mix if there is one; prices that show that there is none, where there is none."""
        mix = self.told(mix_for, target, others, less)
        target = tuple(target)
        unlike = [tuple(other) for other in others if tuple(other) != target]
        if mix is not None:
            self.assertIs(is_mix_for(target, others, mix, less), True)
            self.assertLessEqual(len(mix), len(target))
            return mix
        cuts = [[number - its for number, its in zip(target, other)] for other in unlike]
        prices = inside(corners_where(len(target), cuts))
        self.assertGreater(min(prices), 0)
        for other in unlike:
            if less:
                self.assertLessEqual(cost(target, prices), cost(other, prices))
            else:
                self.assertLess(cost(target, prices), cost(other, prices))
        return None

    def test_the_example(self):
        mix = self.one_of_both((3, 1), [(0, 5), (1, 2), (4, 0)], True)
        self.assertLessEqual(set(mix), {(0, 5), (1, 2), (4, 0)})

    def test_equal_alone(self):
        self.tells({(0, 6): 1, (6, 0): 1}, mix_for, (3, 3), [(0, 6), (6, 0)])
        self.tells(None, mix_for, (3, 3), [(0, 6), (6, 0)], True)

    def test_no_others(self):
        for target in ((0,), (1, 2), (1, 2, 3)):
            self.tells(None, mix_for, target, [])
            self.tells(None, mix_for, target, [target, list(target)], True)
            self.tells(None, mix_for, target, [target], False)

    def test_one_number(self):
        self.tells({(1,): 1}, mix_for, (2,), [(5,), (1,), (2,)])
        self.tells({(1,): 1}, mix_for, (2,), [(5,), (1,), (2,)], True)
        self.tells(None, mix_for, (2,), [(3,), (2,)])

    def test_it_is_a_side_of_three(self):
        corners = [(6, 0, 0), (0, 6, 0), (0, 0, 6)]
        self.tells({(0, 0, 6): 1, (0, 6, 0): 1, (6, 0, 0): 1}, mix_for, (2, 2, 2), corners)
        self.tells(None, mix_for, (2, 2, 2), corners, True)
        self.assertEqual(len(self.one_of_both((2, 2, 3), corners, True)), 3)

    def test_the_same_however_the_others_stand(self):
        others = [(0, 5), (1, 2), (4, 0), (2, 2), (9, 0)]
        told = mix_for((3, 1), others)
        for turned in (others[::-1], others + others, [list(other) for other in others] + [(3, 1)]):
            self.assertEqual(repr(mix_for([3, 1], turned)), repr(told))

    def test_numbers_at_the_limits(self):
        third = GREAT // 3
        corners = [(GREAT, 0, 0), (0, GREAT, 0), (0, 0, GREAT)]
        self.assertEqual(set(self.one_of_both((third, third, third + 1), corners, True)), set(corners))
        self.assertIsNone(self.one_of_both((third, third, third - 1), corners, False))

    def test_small_ones_all_of_them(self):
        rows = list(all_of(range(3), repeat=2))
        for target in rows:
            for others in all_of(rows, repeat=2):
                for less in (False, True):
                    self.one_of_both(target, list(others), less)

    def test_many_by_chance(self):
        chance = chance_of(35)
        found = []
        for _ in range(150):
            many, greatest = chance.randint(1, 3), chance.choice([3, 8, GREAT])
            rows = [tuple(chance.randint(0, greatest) for _ in range(many)) for _ in range(chance.randint(1, 12))]
            for less in (False, True):
                found.append(self.one_of_both(rows[0], rows[1:], less) is None)
        self.assertIn(True, found)
        self.assertIn(False, found)

    def test_sixty_others(self):
        chance = chance_of(36)
        others = [(x, y, 1000 - x - y) for x, y in ((chance.randint(0, 500), chance.randint(0, 500)) for _ in range(60))]
        self.assertIsNone(self.one_of_both((200, 200, 200), others, True))
        self.assertIsNotNone(self.one_of_both((250, 250, 501), others, True))

    def test_why_not_both(self):
        chance = chance_of(37)
        for _ in range(60):
            rows = [tuple(chance.randint(0, 9) for _ in range(3)) for _ in range(7)]
            mix = mix_for(rows[0], rows[1:], True)
            if mix is not None:
                for prices in all_of(range(1, 4), repeat=3):
                    self.assertGreater(cost(rows[0], prices), min(product(row, prices) for row in mix))

    def test_weights_are_integers_from_one_on(self):
        for weight in NO_NUMBERS + [0]:
            self.assertIs(is_mix_for((3,), [(1,)], {(1,): weight}), False)


if __name__ == "__main__":
    unittest.main()
