"""Promises 7.1 to 7.5: maps of all prices, walls, what is met along a line."""

import unittest
from fractions import Fraction
from itertools import combinations, product as all_of
from math import gcd

from anyprice.errors import BadAmounts, BadPrices, NoThing
from anyprice.fronts import front
from anyprice.hulls import hull
from anyprice.maps import best_along, map_of, price_map, walls
from anyprice.pieces import inside, is_in_piece
from anyprice.programs import Program
from helpers import (EXAMPLE, NO_AMOUNTS, NO_LISTS, NO_PRICES, Case, bare_program, bowl, chance_of, cross, lowest,
                     plain_hull, plain_piece, product, rich_program)

STEPS = [(0, 5), (1, 2), (3, 1), (4, 0)]
THREE = [(0, 0, 2), (0, 3, 0), (2, 0, 0)]
GREAT = 10 ** 18


def some_amounts(chance, many, length, greatest):
    """Amounts at random, sometimes such that many of them are hull amounts."""
    if many > 1 and greatest > 10 and chance.random() < 0.5:
        return bowl(chance, many, length, greatest)
    return [tuple(chance.randint(0, greatest) for _ in range(many)) for _ in range(length)]


def neighbours(corners):
    """The pairs of corners that are side by side in a piece, each ascending."""
    if len(corners) == 2:
        return {tuple(sorted(corners))}
    return {tuple(sorted(pair)) for pair in zip(corners, corners[1:] + corners[:1])}


def goes_round(corners):
    middle = [sum(corner[at] for corner in corners) for at in range(3)]
    pairs = zip(corners, corners[1:] + corners[:1])
    return corners[0] == min(corners) and all(product(middle, cross(one, other)) > 0 for one, other in pairs)


class Maps(Case):

    def check(self, amounts):
        pieces = self.told(price_map, amounts)
        amounts = [tuple(amount) for amount in amounts]
        self.assertEqual(list(pieces), plain_hull(amounts))
        for amount, corners in pieces.items():
            self.assertTrue(all(type(corner) is tuple for corner in corners))
            self.assertEqual(sorted(corners), plain_piece(amount, amounts))
            self.assertTrue(goes_round(corners) if len(corners) > 2 else corners == sorted(corners))
        return pieces

    def test_the_example(self):
        self.tells({(0, 5): [(1, 0), (3, 1)], (1, 2): [(2, 3), (3, 1)], (4, 0): [(0, 1), (2, 3)]}, price_map, STEPS)
        self.tells({(0, 0, 2): [(0, 1, 0), (3, 2, 3), (1, 0, 0)], (0, 3, 0): [(0, 0, 1), (1, 0, 0), (3, 2, 3)],
                    (2, 0, 0): [(0, 0, 1), (3, 2, 3), (0, 1, 0)]}, price_map, THREE)

    def test_no_amounts(self):
        self.tells({}, price_map, [])
        self.tells([], walls, [])

    def test_one_resource(self):
        self.tells({(2,): [(1,)]}, price_map, [(5,), (2,), (3,), [2]])
        self.tells({(0,): [(1,)]}, price_map, [(0,)])
        self.tells([], walls, [(5,), (2,)])

    def test_one_amount(self):
        self.tells({(3, 4): [(0, 1), (1, 0)]}, price_map, [(3, 4)])
        self.tells({(0, 0, 0): [(0, 0, 1), (1, 0, 0), (0, 1, 0)]}, price_map, [(0, 0, 0), (0, 0, 0), (1, 0, 5)])
        self.tells([], walls, [(3, 4), (3, 4)])

    def test_in_any_order_told_twice_and_under_one_another(self):
        pieces = price_map(STEPS)
        for amounts in (STEPS[::-1], STEPS + STEPS, STEPS + [(9, 9), (0, 6), (1, 3)], STEPS + [[2, 2], (4, 1)]):
            self.assertEqual(self.check(amounts), pieces)

    def test_beside_others_there_is_no_piece(self):
        self.tells({(0, 6): [(1, 0), (1, 1)], (6, 0): [(0, 1), (1, 1)]}, price_map, [(0, 6), (3, 3), (6, 0), (5, 1)])

    def test_equal_at_the_rim(self):
        self.check([(0, 0, 5), (0, 5, 0), (0, 2, 2), (5, 0, 0)])
        self.check([(1, 0, 5), (1, 5, 0), (1, 2, 2)])
        self.check([(1, 1, 5), (1, 5, 1)])

    def test_by_chance(self):
        chance = chance_of(71)
        sizes = set()
        for _ in range(120):
            many, greatest = chance.randint(1, 3), chance.choice([2, 4, 100, GREAT])
            pieces = self.check(some_amounts(chance, many, chance.randint(1, 9), greatest))
            sizes.add((many, len(pieces)))
        self.assertTrue({(1, 1), (2, 1), (2, 2), (3, 1), (3, 2), (3, 3)} <= sizes)

    def test_forty_great_amounts(self):
        for many in (2, 3):
            amounts = bowl(chance_of(711), many, 40)
            pieces = self.check(amounts)
            self.assertEqual(len(pieces), 40)

    def test_of_things(self):
        self.tells({(9, 6): [(1, 0), (2, 9)], (18, 4): [(0, 1), (2, 9)]}, map_of, EXAMPLE, "c")
        program = Program(["flat", "flat"], [("x", [], row, ["sum"] * 2) for row in STEPS] + [
            ("y", [("h", 1, (0, 0))], (0, 0), ["sum"] * 2)])
        self.tells(price_map(STEPS), map_of, program, "x")
        self.tells({}, map_of, program, "y")
        self.tells({}, map_of, program, "h")
        chance = chance_of(712)
        for _ in range(30):
            program = rich_program(chance, 3, 3, 9)
            for thing in program.things():
                self.tells(price_map(front(program, thing)), map_of, program, thing)
                self.assertEqual(list(map_of(program, thing)), hull(program, thing))


class Walls(Case):

    def test_the_example(self):
        self.tells([((0, 5), (1, 2), [(3, 1)]), ((1, 2), (4, 0), [(2, 3)])], walls, STEPS)

    def test_three_resources(self):
        self.tells([((0, 0, 2), (0, 3, 0), [(1, 0, 0), (3, 2, 3)]), ((0, 0, 2), (2, 0, 0), [(0, 1, 0), (3, 2, 3)]),
                    ((0, 3, 0), (2, 0, 0), [(0, 0, 1), (3, 2, 3)])], walls, THREE)

    def test_pieces_with_one_corner_in_common(self):
        # Four pieces meet at (1, 1, 2): those across have this corner alone.
        amounts = [(0, 2, 1), (2, 0, 1), (0, 0, 2), (2, 2, 0)]
        found = self.told(walls, amounts)
        shared = {(one, other): sorted(set(price_map(amounts)[one]) & set(price_map(amounts)[other]))
                  for one, other in combinations(sorted(amounts), 2)}
        self.assertEqual(found, [(one, other, shared[one, other]) for one, other in shared if len(shared[one, other]) == 2])
        self.assertIn([(1, 1, 2)], list(shared.values()))

    def test_by_chance(self):
        chance = chance_of(72)
        met = 0
        for _ in range(120):
            many, greatest = chance.randint(1, 3), chance.choice([2, 4, 100, GREAT])
            amounts = some_amounts(chance, many, chance.randint(1, 9), greatest)
            pieces = price_map(amounts)
            expected = []
            for one, other in combinations(sorted(pieces), 2):
                shared = sorted(set(pieces[one]) & set(pieces[other]))
                if len(shared) == many - 1:
                    expected.append((one, other, shared))
            self.tells(expected, walls, amounts)
            for one, other, corners in expected:
                prices = inside(corners)
                self.assertGreater(min(prices), 0)
                least = min(product(row, prices) for row in amounts)
                self.assertEqual([row for row in pieces if product(row, prices) == least], [one, other])
                met += 1
        self.assertGreater(met, 100)

    def test_forty_great_amounts(self):
        amounts = bowl(chance_of(721), 2, 40)
        self.assertEqual([wall[:2] for wall in self.told(walls, amounts)], list(zip(amounts, amounts[1:])))


def plain_along(amounts, begin, end):
    """Triples of the hull amounts by all the fractions at which two of the list cost the same."""
    def prices(at):
        return [(1 - at) * one + at * other for one, other in zip(begin, end)]

    times = {Fraction(0), Fraction(1)}
    for one, other in combinations(amounts, 2):
        first = product(one, begin) - product(other, begin)
        last = product(one, end) - product(other, end)
        if first != last and 0 <= Fraction(first, first - last) <= 1:
            times.add(Fraction(first, first - last))
    told = []
    for amount in plain_hull(amounts):
        best = [at for at in sorted(times)
                if product(amount, prices(at)) == min(product(row, prices(at)) for row in amounts)]
        if len(best) > 1:
            told.append((best[0], amount, best[-1]))
    return [(amount, (low.numerator, low.denominator), (high.numerator, high.denominator))
            for low, amount, high in sorted(told)]


class Along(Case):

    def test_the_example(self):
        self.tells([((4, 0), (0, 1), (1, 3)), ((1, 2), (1, 3), (11, 12)), ((0, 5), (11, 12), (1, 1))],
                   best_along, STEPS, (1, 4), (4, 1))

    def test_the_other_way_round(self):
        self.tells([((0, 5), (0, 1), (1, 12)), ((1, 2), (1, 12), (2, 3)), ((4, 0), (2, 3), (1, 1))],
                   best_along, STEPS, (4, 1), (1, 4))

    def test_from_rim_to_rim(self):
        self.tells([((4, 0), (0, 1), (2, 5)), ((1, 2), (2, 5), (3, 4)), ((0, 5), (3, 4), (1, 1))],
                   best_along, STEPS, (0, 1), (1, 0))

    def test_along_the_rim_several_cost_the_same(self):
        # At (p, q, 0) the first two cost the same, and so do all where p is 0.
        amounts = [(0, 3, 9), (0, 9, 3), (5, 0, 0)]
        self.tells(plain_along(amounts, (1, 0, 0), (0, 1, 1)), best_along, amounts, (1, 0, 0), (0, 1, 1))
        self.tells([((0, 0, 5), (0, 1), (1, 1)), ((0, 5, 0), (0, 1), (1, 1))], best_along, [(0, 0, 5), (0, 5, 0), (2, 0, 0)],
                   (1, 0, 0), (3, 0, 0))

    def test_the_same_prices_twice(self):
        self.tells([((1, 2), (0, 1), (1, 1))], best_along, STEPS, (1, 1), (1, 1))
        self.tells([((1, 2), (0, 1), (1, 1)), ((4, 0), (0, 1), (1, 1))], best_along, STEPS, (2, 3), (4, 6))

    def test_at_one_time_alone_is_not_told(self):
        self.tells([((4, 0), (0, 1), (1, 1))], best_along, STEPS, (1, 4), (2, 3))
        self.tells([((1, 2), (0, 1), (1, 1))], best_along, STEPS, (2, 3), (3, 1))
        self.tells([((0, 6), (0, 1), (1, 2)), ((6, 0), (1, 2), (1, 1))], best_along, [(0, 6), (3, 3), (6, 0)], (2, 1), (1, 2))

    def test_prices_at_the_scale_at_which_they_are_passed(self):
        self.tells([((6, 0), (0, 1), (1, 2)), ((0, 6), (1, 2), (1, 1))], best_along, [(0, 6), (6, 0)], (1, 2), (2, 1))
        self.tells([((6, 0), (0, 1), (10, 11)), ((0, 6), (10, 11), (1, 1))], best_along, [(0, 6), (6, 0)], (10, 20), (2, 1))

    def test_no_amounts(self):
        for begin, end in (((1,), (1, 2, 3)), ((0, 1), [5]), ([1, 0, 0], (0, 1)), ((7, 7), (1, 1))):
            self.tells([], best_along, [], begin, end)

    def test_one_resource(self):
        self.tells([((2,), (0, 1), (1, 1))], best_along, [(5,), (2,), (2,)], (1,), (7,))

    def test_by_chance(self):
        chance = chance_of(73)
        met = 0
        for _ in range(200):
            many, greatest = chance.randint(1, 3), chance.choice([2, 4, 100, GREAT])
            amounts = some_amounts(chance, many, chance.randint(1, 12), greatest)
            dear = chance.choice([1, 3, 10 ** 9, 10 ** 9])
            begin, end = ([chance.randint(0, dear) for _ in range(many)] for _ in range(2))
            if any(begin) and any(end):
                told = self.told(best_along, amounts, begin, end)
                self.assertEqual(told, plain_along(amounts, begin, end))
                met += len(told) > 2
                self.assertEqual(told[0][1], (0, 1))
                self.assertIn((1, 1), [high for _, _, high in told])
                for _, low, _ in told:
                    self.assertTrue(low == (0, 1) or low in [high for _, _, high in told])
                self.assertTrue(all(gcd(*at) == 1 and at[1] > 0 for triple in told for at in triple[1:]))
        self.assertGreater(met, 3)

    def test_forty_great_amounts(self):
        amounts = bowl(chance_of(731), 2, 40)
        told = self.told(best_along, amounts, (0, 10 ** 9), (10 ** 9, 0))
        self.assertEqual([amount for amount, _, _ in told], amounts[::-1])
        self.assertEqual([high for _, _, high in told[:-1]], [low for _, low, _ in told[1:]])
        amounts = bowl(chance_of(732), 3, 12)
        self.tells(plain_along(amounts, (1, 10 ** 9, 3), (10 ** 9, 5, 10 ** 9)), best_along, amounts, (1, 10 ** 9, 3),
                   (10 ** 9, 5, 10 ** 9))


class Facts(Case):

    def some(self, number, rounds, many):
        chance = chance_of(number)
        for _ in range(rounds):
            amounts = some_amounts(chance, many, chance.randint(1, 8), chance.choice([2, 5, 20]))
            yield chance, amounts, price_map(amounts)

    def test_all_prices_are_in_some_piece(self):
        for many in (1, 2, 3):
            for _, amounts, pieces in self.some(74, 15, many):
                for prices in all_of(range(3), repeat=many):
                    if any(prices):
                        least = min(product(row, prices) for row in amounts)
                        best = [row for row in pieces if product(row, prices) == least]
                        self.assertEqual([row for row in pieces if is_in_piece(pieces[row], prices)], best)
                        self.assertTrue(best)

    def test_corners_less_pairs_and_pieces(self):
        for _, _, pieces in self.some(741, 40, 2):
            corners = {corner for found in pieces.values() for corner in found}
            self.assertEqual(len(corners), len(pieces) + 1)
        for _, _, pieces in self.some(742, 40, 3):
            corners = {corner for found in pieces.values() for corner in found}
            pairs = set().union(*[neighbours(found) for found in pieces.values()])
            self.assertEqual(len(corners) - len(pairs) + len(pieces), 1)
            for one, other in combinations(pieces.values(), 2):
                shared = sorted(set(one) & set(other))
                self.assertLessEqual(len(shared), 2)
                if len(shared) == 2:
                    self.assertIn(tuple(shared), neighbours(one) & neighbours(other))

    def test_prices_that_are_the_sum_of_two(self):
        for chance, amounts, pieces in self.some(743, 40, 3):
            one, other = ([chance.randint(0, 5) for _ in range(3)] for _ in range(2))
            both = [number + more for number, more in zip(one, other)]
            self.assertGreaterEqual(min(product(row, both) for row in pieces),
                                    min(product(row, one) for row in pieces) + min(product(row, other) for row in pieces))

    def test_one_resource_in_other_units(self):
        for chance, amounts, pieces in self.some(744, 40, 3):
            times, place = chance.randint(2, 6), chance.randrange(3)

            def scaled(row):
                return tuple(number * times if at == place else number for at, number in enumerate(row))

            turned = price_map([scaled(row) for row in amounts])
            self.assertEqual(list(turned), sorted(scaled(row) for row in pieces))
            for row, corners in pieces.items():
                expected = sorted(lowest([number if at == place else number * times for at, number in enumerate(corner)])
                                  for corner in corners)
                self.assertEqual(sorted(turned[scaled(row)]), expected)

    def test_two_parts_added(self):
        chance = chance_of(745)
        for _ in range(25):
            lists = [some_amounts(chance, 2, 4, 9) for _ in range(2)]
            program = bare_program(["flat", "flat"], dict(zip("xy", lists)))
            program = program.with_rule(0, ("z", [("x", 1, (0, 0)), ("y", 1, (0, 0))], (1, 2), ("sum", "sum")))
            maps = [map_of(program, thing) for thing in "xyz"]
            added = {}
            for one in maps[0]:
                for other in maps[1]:
                    both = [corner for corner in all_of(range(40), repeat=2)
                            if any(corner) and is_in_piece(maps[0][one], corner) and is_in_piece(maps[1][other], corner)]
                    wide = {lowest(corner) for corner in both}
                    if len(wide) > 1:
                        added[(one[0] + other[0] + 1, one[1] + other[1] + 2)] = wide
            self.assertEqual(sorted(added), list(maps[2]))
            for row, wide in added.items():
                self.assertTrue(all(is_in_piece(maps[2][row], corner) for corner in wide))


class Refused(Case):

    def test_what_are_no_amounts(self):
        for thing in NO_LISTS:
            self.refuses(BadAmounts, "index", 0, price_map, thing)
            self.refuses(BadAmounts, "index", 0, walls, thing)
            self.refuses(BadAmounts, "index", 0, best_along, thing, None, None)
        for thing in NO_AMOUNTS + [(1,), (1, 2, 3)]:
            for amounts in ([(1, 2), [3, 4], thing], [(1, 2), [3, 4], thing, None]):
                self.refuses(BadAmounts, "index", 2, price_map, amounts)
                self.refuses(BadAmounts, "index", 2, walls, amounts)
                self.refuses(BadAmounts, "index", 2, best_along, amounts, None, None)

    def test_what_are_no_prices(self):
        for thing in NO_PRICES + [(1,), (1, 2, 3)]:
            self.refuses(BadPrices, "prices", thing, best_along, STEPS, thing, None)
            self.refuses(BadPrices, "prices", thing, best_along, STEPS, thing, thing)
            self.refuses(BadPrices, "prices", thing, best_along, STEPS, (0, 1), thing)

    def test_what_are_no_prices_of_no_amounts(self):
        for thing in NO_PRICES:
            self.refuses(BadPrices, "prices", thing, best_along, [], thing, None)
            self.refuses(BadPrices, "prices", thing, best_along, (), (1, 0, 0), thing)

    def test_what_is_no_thing(self):
        for thing in NO_LISTS + ["x", ["a"], ("a",)]:
            if thing != "a":
                self.refuses(NoThing, "thing", thing, map_of, EXAMPLE, thing)


if __name__ == "__main__":
    unittest.main()
