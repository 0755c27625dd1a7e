"""Promise 13.4, and 13.7 as far as it tells of it: what is regretted at worst."""

import unittest
from fractions import Fraction

from anyprice.regrets import least_worst, worst_regret
from helpers import Case, bowl, chance_of, product
from test_within import AMOUNTS, PIECE, check_amount, check_lot, some_lot, some_piece


def plain_regrets(amounts, piece, amount):
    return [product(amount, corner) - min(product(other, corner) for other in amounts) for corner in piece]


class Regrets(Case):

    def test_the_example(self):
        for amount, expected in zip(AMOUNTS, ((15, 1), (5, 1), (1, 0))):
            self.tells(expected, worst_regret, AMOUNTS, PIECE, amount)
        self.tells((1, (5, 1)), least_worst, AMOUNTS, PIECE)

    def test_one_amount_and_one_corner(self):
        self.tells((0, 0), worst_regret, [(3, 4)], PIECE, (3, 4))
        self.tells((0, (3, 4)), least_worst, [(3, 4)], PIECE)
        self.tells((1, 0), worst_regret, AMOUNTS, [(1, 1)], (0, 6))
        self.tells((0, (2, 3)), least_worst, AMOUNTS, [(1, 1)])

    def test_the_first_corner_and_the_first_amount(self):
        amounts, piece = [(6, 0), (0, 6), (4, 4)], [(2, 1), (1, 2), (1, 1)]
        self.tells((6, 0), worst_regret, amounts, piece, (4, 4))
        self.tells((6, 0), worst_regret, amounts, piece, (6, 0))
        self.tells((6, 1), worst_regret, amounts, piece, (0, 6))
        self.tells((6, (0, 6)), least_worst, amounts, piece)
        self.tells((6, 1), worst_regret, amounts, piece[::-1], (4, 4))

    def test_the_scale_of_corners(self):
        self.tells((150, 1), worst_regret, AMOUNTS, [(1, 1), (10, 40)], (0, 6))
        self.tells((20, 0), worst_regret, AMOUNTS, [(20, 20), (1, 4)], (0, 6))

    def test_by_chance(self):
        chance = chance_of(134)
        for _ in range(150):
            n = chance.randint(1, 3)
            amounts, piece = some_lot(chance, n), some_piece(chance, n)
            worsts = []
            for amount in amounts:
                regrets = plain_regrets(amounts, piece, amount)
                worsts.append((max(regrets), amount))
                self.tells((max(regrets), regrets.index(max(regrets))), worst_regret, amounts, piece, amount)
                self.check_within(chance, amounts, piece, amount, max(regrets))
            self.tells(min(worsts), least_worst, amounts, piece)

    def check_within(self, chance, amounts, piece, amount, worst):
        """That nowhere within there is more to regret."""
        for _ in range(3):
            weights = [chance.randint(0, 3) for _ in piece]
            if sum(weights):
                prices = [Fraction(sum(weight * corner[at] for weight, corner in zip(weights, piece)), sum(weights))
                          for at in range(len(amount))]
                self.assertLessEqual(plain_regrets(amounts, [prices], amount)[0], worst)

    def test_twelve_amounts_and_six_corners(self):
        chance = chance_of(1341)
        amounts, piece = bowl(chance, 3, 12, 1000), some_piece(chance, 3, 6, 1000)
        self.tells(min((max(plain_regrets(amounts, piece, amount)), amount) for amount in amounts), least_worst, amounts, piece)

    def test_errors(self):
        check_lot(self, lambda amounts, piece: least_worst(amounts, piece))
        check_lot(self, lambda amounts, piece: worst_regret(amounts, piece, None))
        check_amount(self, worst_regret)


if __name__ == "__main__":
    unittest.main()
