"""Promises 3.1 and 3.2: amounts, the least of them, prices and costs."""

import unittest

from anyprice.errors import BadAmount, BadAmounts, BadPrices
from anyprice.rows import cost, least_rows
from helpers import NO_AMOUNTS, NO_LISTS, NO_PRICES, Case, chance_of, plain_least

GREAT = 10 ** 18 - 1


class LeastRows(Case):

    def test_no_other_one_is_under_them(self):
        self.tells([(1, 3), (2, 2), (3, 1)], least_rows, [(3, 1), (1, 3), (2, 2), (3, 3), (1, 4), (2, 2)])

    def test_equal_ones_are_told_once(self):
        self.tells([(1, 1)], least_rows, [(1, 1), [1, 1], (1, 1)])

    def test_one_number(self):
        self.tells([(2,)], least_rows, [(5,), [2], (3,), (2,)])

    def test_three_numbers(self):
        rows = [(1, 1, 2), (1, 2, 1), (2, 1, 1), (2, 2, 2), (1, 1, 3), (0, 9, 9)]
        self.tells([(0, 9, 9), (1, 1, 2), (1, 2, 1), (2, 1, 1)], least_rows, rows)

    def test_under_in_one_place_alone(self):
        for one, other in (((1, 2, 2), (2, 2, 2)), ((2, 1, 2), (2, 2, 2)), ((2, 2, 1), (2, 2, 2))):
            self.tells([one], least_rows, [other, one])
            self.tells([one], least_rows, [one, other])

    def test_a_row_that_one_under_no_row_between_is_under(self):
        self.tells([(0, 5, 5), (0, 7, 3), (1, 4, 4)], least_rows, [(0, 5, 5), (0, 7, 3), (1, 4, 4), (2, 8, 3)])
        self.tells([(0, 5, 5), (0, 7, 3), (1, 5, 4)], least_rows, [(0, 5, 5), (0, 7, 3), (1, 5, 4), (2, 6, 4), (3, 7, 3)])

    def test_no_rows(self):
        self.tells([], least_rows, [])
        self.tells([], least_rows, ())

    def test_a_list_of_lists(self):
        self.tells([(0, 1), (1, 0)], least_rows, [[1, 0], [0, 1], [1, 1]])

    def test_numbers_at_the_limits(self):
        rows = [(GREAT, 0, GREAT), (GREAT - 1, 1, GREAT), (GREAT, GREAT, GREAT), (0, GREAT, 0)]
        self.tells([(0, GREAT, 0), (GREAT - 1, 1, GREAT), (GREAT, 0, GREAT)], least_rows, rows)
        self.tells([(10 ** 40, 0)], least_rows, [(10 ** 40, 1), (10 ** 40, 0)])

    def test_as_the_plain_way(self):
        chance = chance_of(31)
        for many in (1, 2, 3):
            for greatest in (1, 3, 8, 1000):
                for length in (1, 2, 7, 60):
                    rows = [tuple(chance.randint(0, greatest) for _ in range(many)) for _ in range(length)]
                    self.tells(plain_least(rows), least_rows, rows)

    def test_what_is_no_list(self):
        for thing in NO_LISTS:
            self.refuses(BadAmounts, "index", 0, least_rows, thing)

    def test_the_first_thing_that_is_no_amount(self):
        for thing in NO_AMOUNTS:
            self.refuses(BadAmounts, "index", 0, least_rows, [thing])
            self.refuses(BadAmounts, "index", 2, least_rows, [(1, 2), [2, 1], thing, (1, 1), thing])

    def test_the_first_one_that_is_not_as_long(self):
        self.refuses(BadAmounts, "index", 1, least_rows, [(1,), (1, 2)])
        self.refuses(BadAmounts, "index", 3, least_rows, [(1, 2), (1, 2), (2, 1), (1, 2, 3), (True, 1)])
        self.refuses(BadAmounts, "index", 2, least_rows, [(1, 2, 3), (1, 2, 3), (1, 2), None])


class Cost(Case):

    def test_the_sum_of_the_products(self):
        self.tells(23, cost, (1, 2, 3), (4, 5, 3))
        self.tells(6, cost, [3], [2])
        self.tells(11, cost, (3, 4), [1, 2])

    def test_rim_too(self):
        self.tells(5, cost, (5, 7), (1, 0))
        self.tells(0, cost, (0, 7, 2), (4, 0, 0))

    def test_numbers_at_the_limits(self):
        self.tells(3 * GREAT * GREAT, cost, (GREAT, GREAT, GREAT), (GREAT, GREAT, GREAT))

    def test_multiples_order_alike(self):
        amounts = [(0, 5), (1, 2), (4, 0)]
        for prices in ((1, 1), (2, 3), (3, 1)):
            costs = [cost(amount, prices) for amount in amounts]
            self.assertEqual([7 * one for one in costs],
                             [cost(amount, [7 * price for price in prices]) for amount in amounts])

    def test_what_is_no_amount(self):
        for thing in NO_AMOUNTS:
            self.refuses(BadAmount, "amount", thing, cost, thing, (1, 1))

    def test_what_are_no_prices(self):
        for thing in NO_PRICES:
            self.refuses(BadPrices, "prices", thing, cost, (1, 2), thing)
            self.refuses(BadPrices, "prices", thing, cost, (1,), thing)

    def test_prices_that_are_not_as_long(self):
        for thing in ((1,), [1, 1, 1]):
            self.refuses(BadPrices, "prices", thing, cost, [1, 2], thing)

    def test_the_amount_ahead_of_the_prices(self):
        amount, prices = [1, True], [0, 0]
        self.refuses(BadAmount, "amount", amount, cost, amount, prices)


if __name__ == "__main__":
    unittest.main()
