"""Promise 13.5, and 13.7 as far as it tells of it: the least worst regret that a mix can have."""

import unittest
from fractions import Fraction
from math import gcd

from anyprice.bulges import bulge, is_bulge
from anyprice.mixes import is_mix
from anyprice.regrets import least_worst
from helpers import EXAMPLE, NO_INTEGERS, NO_LISTS, Case, bowl, chance_of, flat_front, product
from test_within import AMOUNTS, PIECE, check_lot, some_lot, some_piece, sum_at

TOLD = ((5, 6), {(2, 3): 1, (5, 1): 5}, [5, 1])


def plain_shown(amounts, piece, weights):
    """What the least at the mean of corners is greater than the mean of their leasts."""
    total = sum(weights)
    prices = sum_at(piece, weights)
    leasts = [min(product(amount, corner) for amount in amounts) for corner in piece]
    return Fraction(min(product(amount, prices) for amount in amounts) - product(leasts, weights), total)


def plain_worst(amounts, piece, mix):
    """The greatest mean regret of a mix at a corner."""
    total = sum(mix.values())
    found = []
    for corner in piece:
        least = min(product(amount, corner) for amount in amounts)
        found.append(Fraction(sum(weight * product(row, corner) for row, weight in mix.items()), total) - least)
    return max(found)


class Bulges(Case):

    def check(self, amounts, piece):
        """That both sides of what is told show its number, so that no mix and no weights do better."""
        n = len(piece[0])
        told = self.told(bulge, amounts, piece)
        self.assertIs(type(told), tuple)
        number, mix, weights = told
        self.assertEqual((type(number), len(number)), (tuple, 2))
        self.assertEqual(gcd(*number), 1)
        self.assertGreater(number[1], 0)
        self.assertTrue(is_mix(mix))
        self.assertEqual(list(mix), sorted(mix))
        self.assertTrue(len(mix) <= n and all(row in amounts for row in mix))
        self.assertEqual((type(weights), len(weights)), (list, len(piece)))
        self.assertTrue(all(type(weight) is int and weight >= 0 for weight in weights))
        self.assertTrue(1 <= len([weight for weight in weights if weight]) <= n)
        self.assertEqual(plain_worst(amounts, piece, mix), Fraction(*number))
        self.assertEqual(plain_shown(amounts, piece, weights), Fraction(*number))
        self.tells(True, is_bulge, amounts, piece, told)
        self.assertLessEqual(Fraction(*number), least_worst(amounts, piece)[0])
        best = any(all(product(amount, corner) <= min(product(other, corner) for other in amounts) for corner in piece)
                   for amount in amounts)
        self.assertEqual(number == (0, 1), best)
        return number

    def test_the_example(self):
        self.tells(TOLD, bulge, AMOUNTS, PIECE)
        self.tells(True, is_bulge, AMOUNTS, PIECE, TOLD)
        self.check(AMOUNTS, PIECE)

    def test_nothing_to_regret(self):
        self.assertEqual(self.check([(3, 4)], PIECE), (0, 1))
        self.assertEqual(self.check(AMOUNTS, [(1, 1)]), (0, 1))
        self.assertEqual(self.check([(3,), (4,)], [(5,), (1,)]), (0, 1))
        self.assertEqual(self.check([(0, 0), (1, 0)], PIECE), (0, 1))
        self.assertEqual(self.check([(1, 1), (0, 9)], [(1, 1), (2, 1), (1, 2)]), (0, 1))

    def test_two_amounts(self):
        # Either is 2 too dear at one corner: half of each is 1 too dear.
        self.assertEqual(self.check([(0, 2), (2, 0)], [(1, 2), (2, 1)]), (1, 1))
        self.assertEqual(self.check([(0, 2), (2, 0)], [(2, 4), (2, 1)]), (4, 3))

    def test_corners_that_are_not_needed(self):
        self.assertEqual(self.check(AMOUNTS, PIECE + [(2, 5)]), self.check(AMOUNTS, [(1, 1), (2, 5), (1, 4)]))
        square = [(1, 1, 1), (3, 1, 1), (1, 3, 1), (3, 3, 1), (2, 2, 1)]
        self.check([(1, 1, 9), (0, 3, 8), (3, 0, 8), (2, 2, 0), (9, 9, 9)], square)

    def test_the_scale_of_corners(self):
        one, other = self.check(AMOUNTS, [(2, 2), (2, 8)]), self.check(AMOUNTS, PIECE)
        self.assertEqual(Fraction(*one), 2 * Fraction(*other))

    def test_by_chance(self):
        chance = chance_of(135)
        above = 0
        for at in range(400):
            n = chance.randint(1, 3)
            amounts = some_lot(chance, n) if at % 2 else flat_front(chance, n, 8, 5)
            number = self.check(amounts, some_piece(chance, n))
            above += number != (0, 1)
        self.assertGreater(above, 100)

    def test_alike_corners_and_amounts(self):
        # Many ties: rows and columns of the same regrets.
        chance = chance_of(1351)
        for _ in range(150):
            n = chance.choice([2, 3])
            amounts, piece = some_lot(chance, n, 12, 2), some_piece(chance, n, 6, 2)
            self.check(amounts, piece)

    def test_twelve_amounts_and_six_corners(self):
        chance = chance_of(1352)
        for n in (1, 2, 3):
            for _ in range(10):
                self.check(some_lot(chance, n, 12, 1000), some_piece(chance, n, 6, 1000))
        for n in (2, 3):
            self.check(bowl(chance, n, 12, 1000), some_piece(chance, n, 6, 1000))

    def test_the_order_of_what_is_passed(self):
        chance = chance_of(1353)
        amounts, piece = bowl(chance, 3, 8, 1000), some_piece(chance, 3, 5, 1000)
        number, mix, weights = bulge(amounts, piece)
        for _ in range(5):
            places = chance.sample(range(len(piece)), len(piece))
            further = bulge(chance.sample(amounts, len(amounts)), [piece[at] for at in places])
            self.assertEqual(further, (number, mix, [weights[at] for at in places]))

    def test_any_object(self):
        number, mix, weights = TOLD
        self.tells(True, is_bulge, AMOUNTS, PIECE, [[10, 12], {(5, 1): 10, (2, 3): 2}, (50, 10)])
        for bad in NO_LISTS + [[], (), TOLD[:2], TOLD + (1,), [None] * 3, "abc", (number, weights, mix)]:
            self.tells(False, is_bulge, AMOUNTS, PIECE, bad)
        for bad in NO_LISTS + [[], (5,), (5, 6, 7), (5, 0), (-5, -6), (5, 7), (4, 6), (1, 1), (True, 1), (5, True), (5, "6"),
                               [5, None], 5, (0, 1)]:
            self.tells(False, is_bulge, AMOUNTS, PIECE, (bad, mix, weights))
        for bad in NO_LISTS + [[], {}, {(2, 3): 1}, {(2, 3): 1, (5, 1): 4}, {(2, 3): 1, (5, 1): 5, (0, 6): 0},
                               {(2, 3): 1, (5, 1): 5, (0, 6): 1}, {(2, 3): True, (5, 1): 5}, {(9, 9): 1}, {(0, 0): 1},
                               {(2,): 1, (5,): 5}, {"ab": 1}, [(2, 3)]]:
            self.tells(False, is_bulge, AMOUNTS, PIECE, (number, bad, weights))
        for bad in NO_LISTS + [[], [5], [5, 1, 0], [0, 0], [1, 5], [5, True], [5, None], [10, -2], [-5, -1], {0: 5, 1: 1}]:
            self.tells(False, is_bulge, AMOUNTS, PIECE, (number, mix, bad))
        for bad in NO_INTEGERS:
            self.tells(False, is_bulge, AMOUNTS, PIECE, ((bad, 6), mix, weights))

    def test_however_many(self):
        # Three amounts mixed where two are enough, three corners weighed where two are.
        amounts, piece = [(0, 4), (4, 0), (2, 2)], [(1, 3), (3, 1), (2, 2)]
        number, mix, weights = bulge(amounts, piece)
        self.assertEqual(number, (4, 1))
        self.tells(True, is_bulge, amounts, piece, (number, {(0, 4): 1, (4, 0): 1, (2, 2): 5}, weights))
        self.tells(True, is_bulge, amounts, piece, (number, {(2, 2): 1}, [1, 1, 0]))
        self.tells(False, is_bulge, amounts, piece, (number, mix, [1, 1, 1]))
        self.tells(False, is_bulge, amounts, piece, (number, {(0, 4): 1}, weights))

    def test_errors(self):
        check_lot(self, lambda amounts, piece: bulge(amounts, piece))
        check_lot(self, lambda amounts, piece: is_bulge(amounts, piece, TOLD))
        check_lot(self, lambda amounts, piece: is_bulge(amounts, piece, EXAMPLE))


if __name__ == "__main__":
    unittest.main()
