"""Promises 11.1 to 11.5 and 11.7: boxes that are asked through, what is whole, what parts two of them."""

import copy
import unittest
from math import gcd

from anyprice.asking import are_whole, asked_through, box_hull, boxes_part
from anyprice.errors import BadAnswer, BadNumber
from anyprice.maps import price_map
from helpers import (EXAMPLE, NO_AMOUNTS, NO_INTEGERS, NO_LISTS, NO_PRICES, Case, bowl, chance_of, flat_front, least_at, lowest,
                     plain_corners, plain_hull, product, some_front)

NO_MANY = NO_INTEGERS + [0, -1, 4, 10 ** 20]
LOT = [(0, 4), (1, 2), (4, 0)]
ASKED = [((1, 1), (1, 2)), ((0, 1), (4, 0)), ((1, 0), (0, 4)), ((2, 1), (0, 4)), ((2, 3), (1, 2))]


class Failure(Exception):
    pass


def first_box(lot):
    """A box that returns the first of those that cost least."""
    return lambda prices: min(lot, key=lambda amount: product(amount, prices), default=None)


def moody_box(lot, chance):
    """A box that returns any of those that cost least, as a list now and then; at the rim such as others are under."""
    def box(prices):
        if not lot:
            return None
        least = least_at(lot, prices)
        best = [amount for amount in lot if product(amount, prices) == least]
        if 0 in prices:
            best += [tuple(number + (7 if price == 0 else 0) for number, price in zip(amount, prices)) for amount in best]
        told = chance.choice(best)
        return chance.choice([tuple, list])(told)
    return box


def plain_corners_of(many, answers):
    """All corners of the price map of some answers, by the words of 3.4 and 7.1."""
    found = set()
    for row in plain_hull(answers):
        cuts = [[one - other for one, other in zip(row, beside)] for beside in set(answers) if beside != row]
        found.update(plain_corners(many, cuts))
    return sorted(found)


def plain_whole(many, pairs):
    answers = [tuple(answer) for _, answer in pairs]
    if any(product(answer, prices) > least_at(answers, prices) for prices, answer in pairs):
        return False
    asked = {lowest(prices) for prices, _ in pairs}
    return set(plain_corners_of(many, answers)) <= asked


def map_parts(amounts, many):
    """How many parts 11.4 lets be asked in."""
    pieces = price_map(amounts)
    corners = {corner for found in pieces.values() for corner in found}
    if many < 3:
        return 1 if many == 1 else len(corners) + len(pieces)
    sides = {frozenset(pair) for found in pieces.values() for pair in zip(found, found[1:] + found[:1])}
    return len(corners) + len(sides) + len(pieces)


class Asked(Case):

    def check(self, lot, many, box=None):
        """That a box is asked as the words say, the answers are its hull, and it is not asked too often."""
        log = []

        def logged(prices):
            log.append(prices)
            return (box or first_box(lot))(prices)

        told = asked_through(logged, many)
        self.assertEqual([prices for prices, _ in told], log)
        if not lot:
            self.assertEqual(told, [((1,) * many, None)])
            return told
        for at, (prices, answer) in enumerate(told):
            self.assertEqual((type(prices), type(answer)), (tuple, tuple))
            self.assertEqual(product(answer, prices), least_at(lot, prices))
            if at == 0:
                self.assertEqual(prices, (1,) * many)
            else:
                known = plain_corners_of(many, [answer for _, answer in told[:at]])
                self.assertEqual(prices, min(corner for corner in known if corner not in log[:at]))
        self.assertTrue(plain_whole(many, told))
        self.assertEqual(plain_hull([answer for _, answer in told]), plain_hull(lot))
        self.tells(True, are_whole, many, told)
        if many == 1:
            self.assertEqual(len(told), 1)
        self.assertLessEqual(len(told), map_parts(lot, many))
        return told

    def test_the_example(self):
        self.tells(ASKED, asked_through, first_box(LOT), 2)
        self.assertEqual(map_parts(LOT, 2), 7)
        self.check(LOT, 2)
        liar = {(2, 3): (0, 4)}
        self.refuses(BadAnswer, "index", 4, asked_through, lambda prices: liar.get(prices, first_box(LOT)(prices)), 2)

    def test_an_empty_lot(self):
        for many in (1, 2, 3):
            self.tells([((1,) * many, None)], asked_through, first_box([]), many)
            self.tells([], box_hull, first_box([]), many)

    def test_one_amount(self):
        self.tells([((1,), (5,))], asked_through, first_box([(5,)]), 1)
        self.tells([((1, 1), (0, 0)), ((0, 1), (0, 0)), ((1, 0), (0, 0))], asked_through, first_box([(0, 0)]), 2)
        self.tells([((1, 1, 1), (1, 2, 3)), ((0, 0, 1), (1, 2, 3)), ((0, 1, 0), (1, 2, 3)), ((1, 0, 0), (1, 2, 3))],
                   asked_through, first_box([(1, 2, 3)]), 3)

    def test_one_resource(self):
        self.tells([((1,), (3,))], asked_through, first_box([(7,), (3,), (9,)]), 1)

    def test_an_endless_lot(self):
        # All (k, n) with k * n at least 30: the greater 30 // k is what is taken.
        def box(prices):
            rows = [(k, -(-30 // k)) for k in range(1, 31)]
            rows += [(0, 99)] if prices[1] == 0 else []
            return min(rows, key=lambda row: product(row, prices)) if prices[0] and prices[1] else (
                (1, 30) if prices[1] == 0 else (30 * 10 ** 6, 1))
        told = box_hull(box, 2)
        self.assertEqual(told, plain_hull([(k, -(-30 // k)) for k in range(1, 31)]))

    def test_lists_for_tuples(self):
        self.tells(ASKED, asked_through, lambda prices: list(first_box(LOT)(prices)), 2)

    def test_by_chance(self):
        chance = chance_of(112)
        for at in range(150):
            many = chance.randint(1, 3)
            lot = some_front(chance, many, 8, chance.choice([2, 4, 9])) if at % 2 else flat_front(chance, many, 8, 4)
            lot += [tuple(number + chance.randint(0, 3) for number in row) for row in lot]
            lot = lot if chance.randrange(12) else []
            self.check(lot, many)
            self.check(lot, many, moody_box(lot, chance))
            self.tells(plain_hull(lot) if lot else [], box_hull, first_box(lot), many)

    def test_lots_of_forty(self):
        chance = chance_of(1121)
        for many in (2, 3):
            lot = bowl(chance, many, 40, 10 ** 9)
            told = asked_through(first_box(lot), many)
            self.assertTrue(are_whole(many, told))
            self.assertEqual(box_hull(first_box(lot), many), lot)
            self.assertLessEqual(len(told), map_parts(lot, many))
        flat = flat_front(chance, 3, 300, 20)
        self.assertEqual(box_hull(moody_box(flat, chance), 3), box_hull(first_box(flat), 3))

    def test_what_the_box_raises_comes_out(self):
        error = Failure()

        def box(prices):
            if prices == (1, 0):
                raise error
            return first_box(LOT)(prices)

        for call in (lambda: asked_through(box, 2), lambda: box_hull(box, 2), lambda: boxes_part(first_box(LOT), box, 2)):
            with self.assertRaises(Failure) as caught:
                call()
            self.assertIs(caught.exception, error)

    def test_bad_answers(self):
        answers = NO_AMOUNTS + [(1,), [1], (1, 1, 1), [True, 1], (1, False), (1, -1)]
        for bad in answers:
            for at in range(5):
                if bad is None and at == 0:
                    continue
                log = []

                def box(prices):
                    log.append(prices)
                    return bad if len(log) == at + 1 else first_box(LOT)(prices)

                for call in (asked_through, box_hull):
                    del log[:]
                    with self.assertRaises(BadAnswer) as caught:
                        call(box, 2)
                    self.assertEqual((caught.exception.index, len(log)), (at, at + 1))

    def test_answers_that_do_not_fit(self):
        # It costs more at its prices than an earlier one; less than an earlier one where this was asked.
        for at, bad in ((1, (9, 3)), (1, (1, 1)), (1, (0, 0)), (2, (2, 2)), (3, (0, 2)), (4, (2, 2)), (4, (0, 3))):
            scripted = [answer for _, answer in ASKED]
            scripted[at] = bad
            log = []

            def box(prices):
                log.append(prices)
                return scripted[len(log) - 1]

            with self.assertRaises(BadAnswer) as caught:
                asked_through(box, 2)
            self.assertEqual((caught.exception.index, len(log)), (at, at + 1), (at, bad))

    def test_none_behind_the_first(self):
        self.refuses(BadAnswer, "index", 1, asked_through, lambda prices: (1, 1) if prices == (1, 1) else None, 2)

    def test_errors(self):
        def never(prices):
            raise Failure()

        for many in NO_MANY:
            self.refuses(BadNumber, "number", many, asked_through, never, many)
            self.refuses(BadNumber, "number", many, box_hull, never, many)
            self.refuses(BadNumber, "number", many, boxes_part, never, never, many)
            self.refuses(BadNumber, "number", many, are_whole, many, ASKED)


class Whole(Case):

    def test_the_example(self):
        self.tells(True, are_whole, 2, ASKED)
        self.tells(True, are_whole, 2, ASKED[::-1])
        self.tells(True, are_whole, 2, ASKED + ASKED[:2])
        # (1, 1) is no corner.
        self.tells(True, are_whole, 2, ASKED[1:])
        for at in range(1, 5):
            self.tells(False, are_whole, 2, ASKED[:at] + ASKED[at + 1:])

    def test_common_divisors_and_other_answers(self):
        grown = [(tuple(number * 6 for number in prices), answer) for prices, answer in ASKED]
        self.tells(True, are_whole, 2, grown)
        # At (2, 3) both others that cost 8 do as well, at (0, 1) what another one is under.
        for prices, answer in (((2, 3), (4, 0)), ((4, 6), [4, 0]), ((0, 5), (9, 0))):
            if answer != (9, 0):
                self.tells(True, are_whole, 2, ASKED[:4] + [(prices, answer)])
            self.tells(True, are_whole, 2, ASKED + [[list(prices), list(answer)]])
        self.tells(False, are_whole, 2, ASKED + [((2, 3), (0, 4))])
        self.tells(False, are_whole, 2, ASKED + [((3, 1), (1, 2))])

    def test_none(self):
        for prices in ((1, 1), (0, 3), [6, 4]):
            self.tells(True, are_whole, 2, [(prices, None)])
        self.tells(False, are_whole, 2, [((1, 1), None), ((1, 1), None)])
        self.tells(False, are_whole, 2, [((1, 1), None)] + ASKED)
        self.tells(False, are_whole, 2, ASKED + [((1, 1), None)])
        self.tells(False, are_whole, 2, [((1, 1, 1), None)])
        self.tells(False, are_whole, 2, [((0, 0), None)])

    def test_any_object(self):
        for thing in NO_LISTS + [[], (), [[]], [()], [ASKED], [ASKED[0][0]], [((1, 1),)], [((1, 1), (1, 1), (1, 1))],
                                 [EXAMPLE], "ab", [None], [{}], ["ab"]]:
            self.tells(False, are_whole, 2, thing)
        for bad in NO_PRICES + [(1,), (1, 1, 1)]:
            self.tells(False, are_whole, 2, ASKED + [(bad, (1, 2))])
            self.tells(False, are_whole, 2, [(bad, None)])
        for bad in NO_AMOUNTS + [(1,), (1, 2, 3), (True, 2), (1, -2)]:
            self.tells(False, are_whole, 2, ASKED + [((1, 1), bad)])
        self.tells(True, are_whole, 1, [((7,), (3,))])
        self.tells(False, are_whole, 1, [((7,), (3,)), ((1,), (4,))])
        self.tells(True, are_whole, 1, [((7,), (3,)), ((1,), (3,))])

    def test_by_chance(self):
        chance = chance_of(113)
        counts = {True: 0, False: 0}
        for _ in range(200):
            many = chance.randint(1, 3)
            lot = some_front(chance, many, 5, 4)
            pairs = asked_through(first_box(lot), many)
            if chance.random() < .7:
                pairs.pop(chance.randrange(len(pairs)))
            if chance.random() < .3 and pairs:
                pairs.append((chance.choice(pairs)[0], chance.choice(lot)))
            chance.shuffle(pairs)
            expected = bool(pairs) and plain_whole(many, pairs)
            counts[expected] += 1
            self.tells(expected, are_whole, many, pairs)
        self.assertGreater(min(counts.values()), 20)


class Part(Case):

    def check(self, ones, others, many):
        chance = chance_of(114)
        told = self.told(boxes_part, first_box(ones), first_box(others), many)
        moody = boxes_part(moody_box(ones, chance), moody_box(others, chance), many)
        same = (plain_hull(ones) if ones else []) == (plain_hull(others) if others else [])
        for prices in (told, moody):
            self.assertEqual(prices is None, same)
            if prices is not None:
                self.assertIs(type(prices), tuple)
                self.assertEqual((len(prices), gcd(*prices)), (many, 1))
                self.assertGreater(min(prices), 0)
                self.assertNotEqual(least_at(ones, prices), least_at(others, prices))
        return same

    def test_the_example(self):
        self.assertTrue(self.check(LOT, LOT + [(2, 2)], 2))
        self.assertFalse(self.check(LOT, LOT[:2], 2))
        self.assertFalse(self.check(LOT, [], 2))
        self.assertFalse(self.check([], LOT, 2))
        self.assertTrue(self.check([], [], 2))

    def test_by_chance(self):
        chance = chance_of(115)
        found = [0, 0]
        for _ in range(150):
            many = chance.randint(1, 3)
            ones = flat_front(chance, many, 5, 3)
            others = chance.choice([flat_front(chance, many, 5, 3), ones[:-1], plain_hull(ones), []])
            found[self.check(ones, others, many)] += 1
        self.assertGreater(min(found), 20)

    def test_nothing_else_is_asked(self):
        log = []

        def logged(name, lot):
            def box(prices):
                log.append((name, prices))
                return first_box(lot)(prices)
            return box

        boxes_part(logged("one", LOT), logged("other", LOT[:2]), 2)
        expected = [("one", prices) for prices, _ in asked_through(first_box(LOT), 2)]
        expected += [("other", prices) for prices, _ in asked_through(first_box(LOT[:2]), 2)]
        self.assertEqual(log, expected)

    def test_one_is_asked_ahead_of_other(self):
        def never(prices):
            raise Failure()

        self.refuses(BadAnswer, "index", 0, boxes_part, lambda prices: (1,), never, 2)
        self.refuses(BadAnswer, "index", 1, boxes_part, first_box(LOT), lambda prices: (1, 1) if min(prices) else None, 2)

    def test_nothing_is_changed(self):
        lot = copy.deepcopy(LOT)
        answers = [list(row) for row in LOT]
        boxes_part(first_box(answers), first_box(LOT), 2)
        self.assertEqual((LOT, answers), (lot, [list(row) for row in lot]))


if __name__ == "__main__":
    unittest.main()
