"""Promises 3.4 and 3.6: pieces of prices and their corners."""

import unittest
from fractions import Fraction
from itertools import combinations, product as all_of

from anyprice.errors import BadCorners, BadCuts, BadNumber, BadPrices
from anyprice.pieces import corners_where, inside, is_in_piece
from helpers import NO_INTEGERS, NO_LISTS, NO_PRICES, Case, chance_of, cross, plain_corners, product

GREAT = 10 ** 18 - 1
NO_CUTS = NO_LISTS + [[], [True, 1], [1, None], [1, "1"], [1, [1]], [1], [1, 2, 3], ["1", "2"], [1, 0, 0, 0]]


def goes_round(corners):
    """Whether three or more corners stand as the document says."""
    middle = [sum(corner[at] for corner in corners) for at in range(3)]
    pairs = zip(corners, corners[1:] + corners[:1])
    return corners[0] == min(corners) and all(product(middle, cross(one, other)) > 0 for one, other in pairs)


def adds_up(corners, prices):
    """Whether some corners, as many as there are numbers at most, add up to the prices times something."""
    many = len(prices)
    if many == 1:
        return True
    if many == 2:
        signs = [corner[0] * prices[1] - corner[1] * prices[0] for corner in corners]
        return min(signs) <= 0 <= max(signs)
    for corner in corners:
        if not any(cross(corner, prices)):
            return True
    for one, other in combinations(corners, 2):
        if any(cross(one, other)) and product(cross(one, other), prices) == 0:
            if product(cross(one, prices), cross(prices, other)) >= 0 <= product(cross(one, other), cross(one, prices)):
                return True
    for one, other, third in combinations(corners, 3):
        whole = product(cross(one, other), third)
        if whole:
            shares = [product(cross(prices, other), third), product(cross(one, prices), third),
                      product(cross(one, other), prices)]
            if all(Fraction(share, whole) >= 0 for share in shares):
                return True
    return False


class CornersWhere(Case):

    def test_the_example(self):
        self.tells([(0, 1, 0), (3, 2, 3), (1, 0, 0)], corners_where, 3, [(0, -3, 2), (-2, 0, 2)])
        self.tells([(1, 1)], corners_where, 2, [(1, -1), (-1, 1)])
        self.tells([], corners_where, 2, [(3, -4), (2, -1), (-1, 1)])

    def test_no_cuts(self):
        self.tells([(1,)], corners_where, 1, [])
        self.tells([(0, 1), (1, 0)], corners_where, 2, [])
        self.tells([(0, 0, 1), (1, 0, 0), (0, 1, 0)], corners_where, 3, [])

    def test_one_number(self):
        self.tells([(1,)], corners_where, 1, [(0,), (-3,)])
        self.tells([], corners_where, 1, [(-1,), (1,)])

    def test_cuts_of_noughts_and_cuts_twice(self):
        self.tells([(0, 1), (1, 0)], corners_where, 2, [(0, 0), [0, 0]])
        self.tells([(1, 1), (1, 0)][::-1], corners_where, 2, [(-2, 2), (-2, 2), (-1, 1)])

    def test_a_piece_on_the_rim(self):
        self.tells([(0, 1)], corners_where, 2, [(1, 0)])
        self.tells([(0, 0, 1)], corners_where, 3, [(1, 0, 0), (0, 1, 0)])
        self.tells([(0, 0, 1), (0, 1, 0)], corners_where, 3, [(1, 0, 0)])
        self.tells([], corners_where, 3, [(1, 1, 1)])

    def test_a_flat_piece_that_is_cut(self):
        self.tells([(0, 0, 1), (1, 1, 0)], corners_where, 3, [(1, -1, 0), (-1, 1, 0)])
        self.tells([(1, 1, 0), (1, 1, 2)], corners_where, 3, [(1, -1, 0), (-1, 1, 0), (-1, -1, 1)])
        self.tells([(1, 1, 2)], corners_where, 3, [(1, -1, 0), (-1, 1, 0), (-1, -1, 1), (1, 1, -1)])
        self.tells([(0, 0, 1)], corners_where, 3, [(1, -1, 0), (-1, 1, 0), (1, 1, 0)])

    def test_more_than_three_corners(self):
        corners = self.told(corners_where, 3, [(-5, 1, 1), (1, -5, 1), (1, 1, -5), (-1, -1, 1)])
        self.assertEqual(corners, [(1, 2, 3), (2, 1, 3), (4, 1, 1), (1, 4, 1)])
        self.assertTrue(goes_round(corners))

    def test_as_the_plain_way(self):
        chance = chance_of(34)
        lengths = set()
        for _ in range(500):
            many, greatest = chance.randint(1, 3), chance.choice([1, 3, 9, GREAT])
            cuts = [[chance.randint(-greatest, greatest) for _ in range(many)] for _ in range(chance.randint(0, 7))]
            if chance.random() < 0.5:
                cuts = [[number - abs(chance.randint(0, greatest)) for number in cut] for cut in cuts]
            corners = self.told(corners_where, many, cuts)
            self.assertEqual(sorted(corners), plain_corners(many, cuts))
            self.assertTrue(goes_round(corners) if len(corners) > 2 else corners == sorted(corners))
            lengths.add((many, len(corners)))
        self.assertTrue({(1, 0), (1, 1), (2, 0), (2, 1), (2, 2), (3, 0), (3, 1), (3, 3), (3, 4)} <= lengths)

    def test_sixty_cuts(self):
        # Each cut takes a further corner off, beside the one that the cut ahead of it took off.
        cuts = [(-k * (k + 1), 2 * k + 1, -1) for k in range(60)]
        corners = self.told(corners_where, 3, cuts)
        self.assertEqual(corners, [(0, 0, 1), (1, 0, 0)] + [(1, k, k * k) for k in range(1, 60)] + [(0, 1, 119)])
        self.assertTrue(goes_round(corners))
        chance = chance_of(343)
        cuts = [[chance.randint(-GREAT, GREAT // 20) for _ in range(3)] for _ in range(60)]
        self.assertEqual(sorted(self.told(corners_where, 3, cuts)), plain_corners(3, cuts))

    def test_the_order_of_the_cuts_does_not_count(self):
        cuts = [(0, -3, 2), (-2, 0, 2), (-1, -1, 1), (1, -4, 0)]
        self.assertEqual(corners_where(3, cuts), corners_where(3, cuts[::-1]))

    def test_what_is_no_number(self):
        for thing in NO_INTEGERS + [0, 4, -1, 10 ** 30]:
            self.refuses(BadNumber, "number", thing, corners_where, thing, [])
            self.refuses(BadNumber, "number", thing, corners_where, thing, None)

    def test_what_are_no_cuts(self):
        for thing in NO_LISTS:
            self.refuses(BadCuts, "index", 0, corners_where, 2, thing)
        for thing in NO_CUTS:
            self.refuses(BadCuts, "index", 0, corners_where, 2, [thing])
            self.refuses(BadCuts, "index", 2, corners_where, 2, [(1, -1), [0, 1], thing, None])


class Inside(Case):

    def test_the_sum_in_lowest_terms(self):
        self.tells((4, 3, 3), inside, [(0, 1, 0), (3, 2, 3), (1, 0, 0)])
        self.tells((1, 1), inside, [(2, 0), (0, 2)])
        self.tells((1,), inside, [(7,)])
        self.tells((1, 0, 0), inside, [[5, 0, 0], [10, 0, 0]])

    def test_as_passed(self):
        self.tells((3, 1), inside, [(3, 0), (0, 1)])
        self.tells((6, 1), inside, [(6, 0), (0, 1)])
        self.tells((GREAT, 1), inside, [(2 * GREAT, 0), (0, 2)])

    def test_above_nought_if_some_row_is(self):
        for cuts in all_of(all_of(range(-1, 2), repeat=3), repeat=2):
            corners = corners_where(3, cuts)
            rows = [row for row in all_of(range(1, 4), repeat=3) if all(product(row, cut) <= 0 for cut in cuts)]
            if rows:
                self.assertGreater(min(inside(corners)), 0)
            for cut in cuts:
                if any(product(row, cut) < 0 for row in rows):
                    self.assertLess(product(inside(corners), cut), 0)


class IsInPiece(Case):

    def test_a_corner_and_its_multiples(self):
        corners = [(0, 1, 0), (3, 2, 3), (1, 0, 0)]
        for prices in ((0, 1, 0), (0, 5, 0), (6, 4, 6), (1, 0, 0), (4, 3, 3), (1, 1, 0), (4, 2, 3), (GREAT, GREAT, 0)):
            self.tells(True, is_in_piece, corners, prices)

    def test_what_is_outside(self):
        corners = [(0, 1, 0), (3, 2, 3), (1, 0, 0)]
        for prices in ((0, 0, 1), (3, 2, 4), (0, 1, 1), (1, 0, 1), (GREAT, GREAT, GREAT + 1)):
            self.tells(False, is_in_piece, corners, prices)

    def test_fractions_of_corners(self):
        self.tells(True, is_in_piece, [(2, 4), (4, 0)], (1, 1))
        self.tells(True, is_in_piece, [(6, 3)], (2, 1))
        self.tells(False, is_in_piece, [(6, 3)], (1, 2))

    def test_one_number(self):
        self.tells(True, is_in_piece, [(5,)], (3,))

    def test_rows_that_are_no_corners_in_any_order(self):
        rows = [(1, 1, 1), (3, 2, 3), (1, 0, 0), (2, 0, 0), (0, 1, 0), (1, 1, 0)]
        self.tells(True, is_in_piece, rows, (4, 3, 3))
        self.tells(False, is_in_piece, rows, (1, 1, 2))
        self.tells(True, is_in_piece, [(1, 0, 0), (0, 0, 1), (0, 1, 0), (1, 1, 1)], (1, 5, 2))

    def test_a_flat_piece(self):
        self.tells(True, is_in_piece, [(1, 0, 1), (0, 1, 1)], (2, 3, 5))
        self.tells(False, is_in_piece, [(1, 0, 1), (0, 1, 1)], (2, 3, 4))
        self.tells(False, is_in_piece, [(1, 0, 1), (0, 1, 1)], (2, 3, 6))

    def test_the_piece_of_cuts(self):
        chance = chance_of(341)
        for _ in range(40):
            many = chance.randint(1, 3)
            cuts = [[chance.randint(-4, 3) for _ in range(many)] for _ in range(chance.randint(0, 4))]
            corners = corners_where(many, cuts)
            for prices in all_of(range(4), repeat=many):
                if corners and any(prices):
                    expected = all(product(cut, prices) <= 0 for cut in cuts)
                    self.assertIs(is_in_piece(corners, prices), expected)

    def test_as_the_plain_way(self):
        chance = chance_of(342)
        found = []
        for _ in range(300):
            many, greatest = chance.randint(1, 3), chance.choice([1, 2, 5, GREAT])
            rows = [[chance.randint(0, greatest) for _ in range(many)] for _ in range(chance.randint(2, 9))]
            rows = [row for row in rows if any(row)] or [[1] * many]
            prices = rows.pop() if len(rows) > 1 else [1] * many
            self.tells(adds_up(rows, prices), is_in_piece, rows, prices)
            found.append(adds_up(rows, prices))
        self.assertIn(True, found)
        self.assertIn(False, found)


class WrongCorners(Case):

    def test_what_are_no_corners(self):
        for thing in NO_LISTS + [[], ()]:
            self.refuses(BadCorners, "index", 0, inside, thing)
            self.refuses(BadCorners, "index", 0, is_in_piece, thing, (1, 1))
        for thing in NO_PRICES:
            self.refuses(BadCorners, "index", 0, inside, [thing])
            self.refuses(BadCorners, "index", 1, inside, [(1, 0), thing, thing])
            self.refuses(BadCorners, "index", 2, is_in_piece, [(1, 0), [0, 1], thing], (1, 1))

    def test_corners_that_are_not_as_long(self):
        self.refuses(BadCorners, "index", 1, inside, [(1, 0), (1, 0, 0), (1,)])
        self.refuses(BadCorners, "index", 2, is_in_piece, [(1,), (2,), (1, 0)], (1,))

    def test_what_are_no_prices(self):
        for thing in NO_PRICES:
            self.refuses(BadPrices, "prices", thing, is_in_piece, [(1, 0), (0, 1)], thing)

    def test_prices_that_are_not_as_long(self):
        for thing in ((1,), [1, 1, 1]):
            self.refuses(BadPrices, "prices", thing, is_in_piece, [(1, 0), (0, 1)], thing)

    def test_the_corners_ahead_of_the_prices(self):
        self.refuses(BadCorners, "index", 1, is_in_piece, [(1, 0), (0, 0)], None)


if __name__ == "__main__":
    unittest.main()
