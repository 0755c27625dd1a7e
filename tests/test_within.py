"""Promises 13.1 to 13.3, and 13.7 as far as it tells of best_within: what is best within a piece of prices."""

import unittest
from fractions import Fraction
from itertools import combinations

from anyprice.errors import BadAmounts, NoAmount, NoThing
from anyprice.fronts import front
from anyprice.mixes import is_mix
from anyprice.programs import Program
from anyprice.refusals import BadPiece
from anyprice.tops import plan_of
from anyprice.within import best_within, mix_under, surely_used, weights_for
from helpers import (EXAMPLE, NO_AMOUNTS, NO_LISTS, NO_PRICES, Case, bare_program, bowl, chance_of, plain_fronts, product,
                     rich_program, straight_trees, tree_amount, tree_rules)

AMOUNTS = [(0, 6), (2, 3), (5, 1)]
PIECE = [(1, 1), (1, 4)]
NO_CORNERS = NO_PRICES + [(0, 1), [1, 0], (1,), (1, 1, 1), (1, -1), (True, 1), (1, None)]


def sum_at(piece, weights):
    """The weighed corners, added."""
    return tuple(sum(weight * corner[at] for weight, corner in zip(weights, piece)) for at in range(len(piece[0])))


def some_lot(chance, n, most=8, greatest=9):
    rows = [tuple(chance.randint(0, greatest) for _ in range(n)) for _ in range(chance.randint(1, most))]
    return list(dict.fromkeys(rows))


def some_piece(chance, n, most=6, greatest=6):
    rows = [tuple(chance.randint(1, greatest) for _ in range(n)) for _ in range(chance.randint(1, most))]
    return list(dict.fromkeys(rows))


def plain_best(amounts, piece):
    """Of prices where lines between corners, or planes of three, are met by what costs the same: all that can matter."""
    n = len(piece[0])
    places = [tuple(map(Fraction, corner)) for corner in piece]
    gaps = [tuple(one - other for one, other in zip(*pair)) for pair in combinations(amounts, 2)]
    for one, other in combinations(piece, 2):
        for gap in gaps:
            first, last = product(one, gap), product(other, gap)
            if first * last < 0:
                share = Fraction(first, first - last)
                places.append(tuple(a + share * (b - a) for a, b in zip(one, other)))
    if n == 3:
        for three in combinations(piece, 3):
            for gap, beside in combinations(gaps, 2):
                places += met_at(three, gap, beside)
    found = set()
    for place in places:
        least = min(product(amount, place) for amount in amounts)
        found.update(amount for amount in amounts if product(amount, place) == least)
    return sorted(found)


def met_at(three, gap, beside):
    """The mix of three corners at which both gaps cost nothing, in a list, if there is just one."""
    one, other = [product(corner, gap) for corner in three], [product(corner, beside) for corner in three]
    weights = (one[1] * other[2] - one[2] * other[1], one[2] * other[0] - one[0] * other[2],
               one[0] * other[1] - one[1] * other[0])
    total = sum(weights)
    if total == 0 or not (all(weight * total >= 0 for weight in weights)):
        return []
    return [tuple(sum(Fraction(weight, total) * corner[at] for weight, corner in zip(weights, three)) for at in range(3))]


class Within(Case):

    def check(self, amounts, piece):
        """That just one of both is told of each amount, is right by its sums, and best_within has just the former."""
        n = len(piece[0])
        best = []
        for amount in amounts:
            weights = self.told(weights_for, amounts, piece, amount)
            mix = self.told(mix_under, amounts, piece, amount)
            self.assertEqual(weights is None, mix is not None)
            if mix is None:
                best.append(amount)
                self.check_weights(amounts, piece, amount, weights)
            else:
                self.assertTrue(is_mix(mix))
                self.assertLessEqual(len(mix), n)
                self.assertTrue(all(row in amounts for row in mix))
                for corner in piece:
                    self.assertLess(sum(weight * product(row, corner) for row, weight in mix.items()),
                                    sum(mix.values()) * product(amount, corner))
        self.tells(sorted(best), best_within, amounts, piece)
        return best

    def check_weights(self, amounts, piece, amount, weights):
        self.assertEqual((type(weights), len(weights)), (list, len(piece)))
        self.assertTrue(all(type(weight) is int and weight >= 0 for weight in weights))
        self.assertTrue(1 <= len([weight for weight in weights if weight]) <= len(amount))
        prices = sum_at(piece, weights)
        self.assertEqual(product(amount, prices), min(product(other, prices) for other in amounts))

    def test_the_example(self):
        self.tells([(2, 3), (5, 1)], best_within, AMOUNTS, PIECE)
        self.assertEqual(self.check(AMOUNTS, PIECE), [(2, 3), (5, 1)])
        self.assertEqual(self.check(AMOUNTS[::-1], PIECE[::-1]), [(5, 1), (2, 3)])

    def test_one_amount_and_one_corner(self):
        self.assertEqual(self.check([(3, 4)], PIECE), [(3, 4)])
        self.assertEqual(self.check([(0,)], [(5,)]), [(0,)])
        self.assertEqual(self.check(AMOUNTS, [(1, 1)]), [(2, 3)])
        self.assertEqual(self.check([(0, 6), (2, 4), (5, 1), (3, 3)], [(1, 1)]), [(0, 6), (2, 4), (5, 1), (3, 3)])
        self.assertEqual(self.check([(3,), (2,), (4,)], [(5,), (1,)]), [(2,)])

    def test_ties_at_a_corner(self):
        # At (1, 1) both cost 5, behind it (5, 0) less.
        self.assertEqual(self.check([(0, 5), (5, 0)], PIECE), [(0, 5), (5, 0)])

    def test_a_corner_that_is_not_needed(self):
        # (2, 5) is the sum of the others.
        self.assertEqual(self.check(AMOUNTS, PIECE + [(2, 5)]), [(2, 3), (5, 1)])
        square = [(1, 1, 1), (3, 1, 1), (1, 3, 1), (3, 3, 1), (2, 2, 1)]
        self.check([(1, 1, 9), (0, 3, 8), (3, 0, 8), (2, 2, 0), (9, 9, 9)], square)

    def test_the_scale_of_corners(self):
        # A mean of (1, 1) and (10, 40) stands nearer to (1, 4) than one of (1, 1) and (1, 4).
        for piece in (PIECE, [(1, 1), (10, 40)], [(30, 30), (1, 4)]):
            self.assertEqual(self.check(AMOUNTS, piece), [(2, 3), (5, 1)])

    def test_never_at_a_corner_but_between(self):
        amounts = [(0, 10), (10, 0), (4, 4)]
        self.assertEqual(self.check(amounts, [(1, 9), (9, 1)]), amounts)

    def test_by_chance(self):
        chance = chance_of(132)
        counts = [0, 0]
        for _ in range(200):
            n = chance.randint(1, 3)
            amounts = some_lot(chance, n)
            piece = some_piece(chance, n)
            best = self.check(amounts, piece)
            counts[0] += len(best)
            counts[1] += len(amounts) - len(best)
        self.assertGreater(min(counts), 100)

    def test_against_a_plain_way(self):
        chance = chance_of(1321)
        for _ in range(80):
            n = chance.randint(1, 3)
            amounts, piece = some_lot(chance, n, 5, 5), some_piece(chance, n, 4)
            self.tells(plain_best(amounts, piece), best_within, amounts, piece)

    def test_twelve_amounts_and_six_corners(self):
        chance = chance_of(1322)
        for n in (1, 2, 3):
            for _ in range(4):
                self.check(some_lot(chance, n, 12, 1000), some_piece(chance, n, 6, 1000))
        self.check(bowl(chance, 3, 12, 1000), some_piece(chance, 3, 6, 1000))

    def test_the_order_of_what_is_passed(self):
        chance = chance_of(1323)
        amounts, piece = bowl(chance, 3, 8, 1000), some_piece(chance, 3, 5, 1000)
        for amount in amounts:
            weights, mix = weights_for(amounts, piece, amount), mix_under(amounts, piece, amount)
            for _ in range(5):
                turned, places = chance.sample(amounts, len(amounts)), chance.sample(range(len(piece)), len(piece))
                corners = [piece[at] for at in places]
                further = weights_for(turned, corners, amount)
                self.assertEqual(further, weights if weights is None else [weights[at] for at in places])
                self.assertEqual(mix_under(turned, corners, amount), mix)

    def test_errors(self):
        calls = [lambda amounts, piece: best_within(amounts, piece)]
        calls += [lambda amounts, piece, call=call: call(amounts, piece, None) for call in (weights_for, mix_under)]
        for ask in calls:
            check_lot(self, ask)
        for call in (weights_for, mix_under):
            check_amount(self, call)


def check_lot(case, ask):
    """That amounts and pieces are refused as 13.1 says."""
    for amounts in NO_LISTS + [[], ()]:
        case.refuses(BadAmounts, "index", 0, lambda: ask(amounts, None))
    for bad in NO_AMOUNTS + [(1,), (1, 1, 1), [True, 1], (0, 6), [0, 6]]:
        case.refuses(BadAmounts, "index", 2, lambda: ask([(0, 6), (1, 1), bad, bad], None))
    for bad in NO_AMOUNTS:
        case.refuses(BadAmounts, "index", 0, lambda: ask([bad, (1, 1)], PIECE))
    for piece in NO_LISTS + [[], ()]:
        case.refuses(BadPiece, "index", 0, lambda: ask(AMOUNTS, piece))
    for bad in NO_CORNERS + [(1, 4), [1, 4]]:
        case.refuses(BadPiece, "index", 2, lambda: ask(AMOUNTS, [(1, 4), (2, 8), bad, bad]))
    for bad in NO_CORNERS:
        case.refuses(BadPiece, "index", 0, lambda: ask(AMOUNTS, [bad, (1, 4)]))


def check_amount(case, call):
    """That NoAmount is raised for what is none of the amounts, behind all else."""
    for amount in NO_AMOUNTS + [(2, 4), (0,), (0, 6, 0), [2, True], AMOUNTS]:
        case.refuses(NoAmount, "amount", amount, call, AMOUNTS, PIECE, amount)
        case.refuses(BadPiece, "index", 0, call, AMOUNTS, [], amount)
        case.refuses(BadAmounts, "index", 0, call, [], PIECE, amount)


class SurelyUsed(Case):

    def test_the_example_of_fronts(self):
        self.tells([1, 2, 3], surely_used, EXAMPLE, "c", [(1, 1)])
        self.tells([0, 1, 2, 3], surely_used, EXAMPLE, "c", [(1, 9)])
        # In between both are best.
        self.tells([1, 2, 3], surely_used, EXAMPLE, "c", [(1, 1), (1, 9)])
        self.tells([1], surely_used, EXAMPLE, "a", [(3, 2), (4, 3)])
        self.tells([], surely_used, EXAMPLE, "a", [(1, 1)])

    def test_without_plans(self):
        program = bare_program(["flat", "high"], {"x": []})
        self.tells([], surely_used, program, "x", PIECE)

    def test_two_plans_of_one_amount(self):
        two = ("sum", "sum")
        program = Program(["flat", "flat"], [("x", [("y", 1, (0, 0))], (1, 1), two), ("y", [], (1, 1), two), ("y", [], (1, 1), two)])
        self.tells([0], surely_used, program, "x", PIECE)
        self.tells([], surely_used, program, "y", PIECE)

    def test_by_chance(self):
        chance = chance_of(133)
        counts = [0, 0]
        for _ in range(150):
            program = rich_program(chance, 4, 3, 6)
            many = len(program.own_sorts())
            for thing in program.things():
                trees = straight_trees(program, thing)
                if len(trees) > 200:
                    continue
                piece = some_piece(chance, many, 3)
                amounts = plain_fronts(program)[thing]
                best = best_within(amounts, piece) if amounts else []
                rules = [tree_rules(tree) for tree in trees if tree_amount(program, tree) in best]
                expected = sorted(set.intersection(*rules)) if rules else []
                counts[0] += bool(expected)
                counts[1] += len(expected) > 1
                self.tells(expected, surely_used, program, thing, piece)
                self.check_fact(program, thing, piece, expected)
        self.assertGreater(min(counts), 50)

    def check_fact(self, program, thing, piece, expected):
        amounts = plain_fronts(program)[thing]
        for number in range(len(program)) if amounts else []:
            fewer = plain_fronts(program.without_rule(number)).get(thing, [])
            both = sorted(set(amounts + fewer))
            self.assertEqual(number in expected, not any(row in fewer for row in best_within(both, piece)))

    def test_plans_that_are_best(self):
        numbers = surely_used(EXAMPLE, "c", PIECE)
        for amount in front(EXAMPLE, "c"):
            used = [row[0] for row in plan_of(EXAMPLE, "c", amount)]
            self.assertTrue(all(number in used for number in numbers))

    def test_errors(self):
        for thing in NO_LISTS + [[], ["a"], "d"]:
            if thing != "a":
                self.refuses(NoThing, "thing", thing, surely_used, EXAMPLE, thing, None)
        for piece in NO_LISTS + [[], ()]:
            self.refuses(BadPiece, "index", 0, surely_used, EXAMPLE, "a", piece)
        for bad in NO_CORNERS + [(1, 4)]:
            self.refuses(BadPiece, "index", 1, surely_used, EXAMPLE, "a", [(1, 4), bad])
        program = bare_program(["flat"], {"x": []})
        self.refuses(BadPiece, "index", 0, surely_used, program, "x", PIECE)


if __name__ == "__main__":
    unittest.main()
