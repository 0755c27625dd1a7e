"""Promises 12.1 to 12.5: choices that were seen, what explains them, and what to ask next."""

import unittest
from itertools import combinations, product as all_of

from anyprice.choices import could_be, explaining, gain, is_gain, next_pair, open_pairs, verdict
from anyprice.errors import BadAmount, BadAmounts, BadNumber
from anyprice.pieces import inside
from anyprice.refusals import BadChoice, Unexplained
from helpers import (EXAMPLE, NO_AMOUNTS, NO_INTEGERS, NO_LISTS, Case, chance_of, is_at_most, lowest, plain_corners, product)

SEEN = [((2, 3), [(0, 6), (5, 1)])]
# Nothing explains these.
AGAINST = SEEN + [((1, 5), [(2, 3)])]
# Prices at the rim alone would do for these: the taken one takes more of the first resource.
RIM = [((1, 1), [(0, 1)])]
NO_N = NO_INTEGERS + [0, -1, 4, 10 ** 20]
NO_CHOICES = NO_LISTS + [
    [], (), [(1, 1)], ((1, 1), [(1, 1)], 3), ((1, 1), (1, 1)), ((1, 1), [1]), ((1, 1), None), ((1,), [(1, 1)]), ((1, 1), [(1,)]),
    ((1, 1, 1), []), ((1, -1), []), ((1, True), []), ((1, 1), [(1, 2), (1, -1)]), ((1, 1), [(1, 2), (False, 1)]), (None, []),
    ((1, 1), [[]]), ((1, 1), "ab"), ((1, 1), {}), "ab", EXAMPLE,
]


def cuts_in(choices):
    return [[one - other for one, other in zip(taken, beside)] for taken, others in choices for beside in others]


def plain_piece_of(n, choices):
    """The ascending corners of all prices, rim too, that would do; whether some above 0 explain."""
    corners = plain_corners(n, cuts_in(choices))
    return corners, bool(corners) and min(map(sum, zip(*corners))) > 0


def explained(n, choices):
    return plain_piece_of(n, choices)[1]


def some_choices(chance, n, many, greatest):
    row = lambda: tuple(chance.randint(0, greatest) for _ in range(n))
    return [(row(), [row() for _ in range(chance.randint(0, 3))]) for _ in range(many)]


def wise_choices(chance, n, many, greatest):
    """Choices that some prices above 0 explain."""
    prices = [chance.randint(1, 3) for _ in range(n)]
    found = []
    for taken, others in some_choices(chance, n, many, greatest):
        rows = sorted([taken] + others, key=lambda row: (product(row, prices), row))
        found.append((rows[0], rows[1:]))
    return found


def plain_could_be(n, choices, lot):
    return sorted(row for row in set(lot) if explained(n, choices + [(row, lot)]))


def plain_open(n, choices, lot):
    corners, _ = plain_piece_of(n, choices)
    found = []
    for one, other in combinations(sorted(set(lot)), 2):
        rises = [product(corner, one) - product(corner, other) for corner in corners]
        if min(rises) < 0 < max(rises):
            found.append((one, other))
    return found


def plain_next(n, choices, lot):
    pairs = plain_open(n, choices, lot)
    worse = [max(len(plain_could_be(n, choices + [(one, [other])], lot)), len(plain_could_be(n, choices + [(other, [one])], lot)))
             for one, other in pairs]
    return pairs[worse.index(min(worse))] if pairs else None


class Explaining(Case):

    def check_gain(self, n, choices):
        told = self.told(gain, n, choices)
        self.assertLessEqual(len(told), n)
        self.assertTrue(all(type(swap) is tuple and len(swap) == 2 for swap in told))
        self.tells(True, is_gain, n, choices, told)
        self.check_sum(n, choices, told, True)
        return told

    def check_sum(self, n, choices, thing, expected):
        taken, others = [0] * n, [0] * n
        for (number, place), weight in thing.items():
            for at in range(n):
                taken[at] += weight * choices[number][0][at]
                others[at] += weight * choices[number][1][place][at]
        self.assertEqual(is_at_most(others, taken) and others != taken, expected)

    def test_the_example(self):
        self.tells([(2, 3), (3, 2)], explaining, 2, SEEN)
        self.tells(None, gain, 2, SEEN)
        self.tells(None, explaining, 2, AGAINST)
        self.tells(True, is_gain, 2, AGAINST, {(0, 0): 1, (1, 0): 2})
        self.tells(True, is_gain, 2, AGAINST, {(1, 0): 2, (0, 0): 1})
        self.check_gain(2, AGAINST)

    def test_no_choices(self):
        self.tells([(1,)], explaining, 1, [])
        self.tells([(0, 1), (1, 0)], explaining, 2, [])
        self.tells([(0, 0, 1), (1, 0, 0), (0, 1, 0)], explaining, 3, [])
        for n in (1, 2, 3):
            self.tells(None, gain, n, [])
            self.tells(False, is_gain, n, [], {})

    def test_choices_without_others(self):
        self.tells([(0, 1), (1, 0)], explaining, 2, [((5, 5), []), ((0, 0), [])])
        self.tells(None, gain, 2, [((5, 5), []), ((0, 0), [])])
        self.tells([(0, 1), (1, 0)], explaining, 2, [((5, 5), [(5, 5), (5, 5)])])

    def test_the_rim_alone_does_not_explain(self):
        self.tells(None, explaining, 2, RIM)
        self.assertEqual(self.check_gain(2, RIM), {(0, 0): 1})
        three = [((1, 0, 1), [(0, 0, 1), (9, 9, 9)])]
        self.tells(None, explaining, 3, three)
        self.check_gain(3, three)
        # At the rim and above it.
        self.tells([(0, 1), (1, 1)], explaining, 2, [((1, 1), [(0, 2)])])

    def test_one_resource(self):
        self.tells([(1,)], explaining, 1, [((3,), [(3,), (4,)])])
        self.tells(None, explaining, 1, [((3,), [(4,), (2,)])])
        self.assertEqual(list(self.check_gain(1, [((3,), [(4,), (2,)])])), [(0, 1)])

    def test_by_chance(self):
        chance = chance_of(121)
        counts = {True: 0, False: 0}
        for _ in range(400):
            n = chance.randint(1, 3)
            choices = some_choices(chance, n, chance.randint(0, 4), chance.choice([2, 6]))
            corners, fine = plain_piece_of(n, choices)
            counts[fine] += 1
            told = self.told(explaining, n, choices)
            self.assertEqual(told is not None, fine)
            if fine:
                self.assertEqual(sorted(told), corners)
                self.tells(None, gain, n, choices)
                prices = inside(told)
                self.assertTrue(all(product(taken, prices) <= product(other, prices)
                                    for taken, others in choices for other in others))
            else:
                self.check_gain(n, choices)
        self.assertGreater(min(counts.values()), 50)

    def test_three_or_more_corners_go_round(self):
        choices = [((1, 2, 3), [(0, 4, 3), (3, 0, 3), (1, 4, 1), (2, 1, 4)])]
        told = explaining(3, choices)
        total = [sum(column) for column in zip(*told)]
        self.assertEqual(told[0], min(told))
        for one, other in zip(told, told[1:] + told[:1]):
            turn = (one[1] * other[2] - one[2] * other[1], one[2] * other[0] - one[0] * other[2],
                    one[0] * other[1] - one[1] * other[0])
            self.assertGreater(product(total, turn), 0)

    def test_any_gain(self):
        for thing in NO_LISTS + [[], (), [((0, 0), 1)], {}, {(0, 0): 0}, {(0, 0): True}, {(0, 0): -1}, {(0, 0): "1"}, {0: 1},
                                 {"ab": 1}, {(0, 2): 1}, {(2, 0): 1}, {(-1, 0): 1}, {(0, 0, 0): 1}, {(0,): 1}, {(0, None): 1},
                                 {(0, 0): 1, (1, 0): 2, (1, 1): 1}, {(0, 0): 1, (1, 0): 1}, {(0, 0): 1, None: 2},
                                 {(False, 0): 1, (1, 0): 2}, {(0, 0): 1, (True, 0): 2}, {((0, 0), (1, 0)): 1}]:
            self.tells(False, is_gain, 2, AGAINST, thing)
        self.tells(True, is_gain, 2, AGAINST, {(0, 0): 10 ** 20, (1, 0): 2 * 10 ** 20})
        # Equal is no gain.
        even = [((1, 2), [(2, 1)]), ((2, 1), [(1, 2)])]
        self.tells(False, is_gain, 2, even, {(0, 0): 1, (1, 0): 1})
        # However many swaps.
        many = [((2, 2), [(1, 2), (2, 1), (1, 1), (2, 2)])]
        self.tells(True, is_gain, 2, many, {(0, place): 1 for place in range(4)})

    def test_any_gain_by_chance(self):
        chance = chance_of(122)
        counts = {True: 0, False: 0}
        for _ in range(300):
            n = chance.randint(1, 3)
            choices = some_choices(chance, n, 3, 3)
            swaps = [(number, place) for number, choice in enumerate(choices) for place in range(len(choice[1]))]
            thing = {swap: chance.randint(1, 3) for swap in swaps if chance.random() < .5}
            if thing:
                told = is_gain(n, choices, thing)
                counts[told] += 1
                self.check_sum(n, choices, thing, told)
                self.tells(told, is_gain, n, choices, thing)
        self.assertGreater(min(counts.values()), 30)

    def test_eight_choices_with_six_others(self):
        chance = chance_of(123)
        for n in (1, 2, 3):
            row = lambda: tuple(chance.randint(0, 1000) for _ in range(n))
            choices = [(row(), [row() for _ in range(6)]) for _ in range(8)]
            self.tells(None, explaining, n, choices)
            self.check_gain(n, choices)

    def test_errors(self):
        for call in (explaining, gain):
            for n in NO_N:
                self.refuses(BadNumber, "number", n, call, n, [None])
            for choices in NO_LISTS:
                self.refuses(BadChoice, "index", 0, call, 2, choices)
            for bad in NO_CHOICES:
                self.refuses(BadChoice, "index", 1, call, 2, [SEEN[0], bad, bad])
            for n in (1, 3):
                self.refuses(BadChoice, "index", 0, call, n, SEEN)
        for n in NO_N:
            self.refuses(BadNumber, "number", n, is_gain, n, None, None)
        for choices in NO_LISTS:
            self.refuses(BadChoice, "index", 0, is_gain, 2, choices, {})


class Verdict(Case):

    def test_the_example(self):
        self.tells("sure", verdict, 2, SEEN, (2, 3), [(0, 7)])
        self.tells("may", verdict, 2, SEEN, (2, 2), [(3, 1)])
        self.tells("never", verdict, 2, SEEN, (1, 5), [(2, 3)])

    def test_nothing_unlike(self):
        self.tells("sure", verdict, 2, SEEN, (2, 3), [])
        self.tells("sure", verdict, 2, SEEN, (2, 3), [(2, 3), [2, 3]])

    def test_equal_costs(self):
        # At the rim of what explains both cost the same: at some prices it does not cost less.
        choices = [((1, 1), [(0, 2)])]
        self.tells("may", verdict, 2, choices, (1, 1), [(0, 2)])
        self.tells("may", verdict, 2, choices, (0, 2), [(1, 1)])
        pinned = [((1, 1), [(0, 2)]), ((0, 2), [(1, 1)])]
        self.tells("may", verdict, 2, pinned, (1, 1), [(2, 0)])
        self.tells("sure", verdict, 2, pinned, (1, 1), [(2, 1)])
        self.tells("never", verdict, 2, pinned, (2, 1), [(2, 0), (3, 3)])

    def test_by_chance(self):
        chance = chance_of(124)
        counts = {"sure": 0, "may": 0, "never": 0}
        for _ in range(300):
            n = chance.randint(1, 3)
            choices = wise_choices(chance, n, chance.randint(0, 4), chance.choice([3, 8]))
            (taken, others), = some_choices(chance, n, 1, 5)
            unlike = [other for other in others if other != taken]
            if not explained(n, choices + [(taken, others)]):
                expected = "never"
            elif any(explained(n, choices + [(other, [taken])]) for other in unlike):
                expected = "may"
            else:
                expected = "sure"
            counts[expected] += 1
            self.tells(expected, verdict, n, choices, taken, others)
            self.assertEqual(expected == "sure", could_be(n, choices, [taken] + others) == [taken])
            self.assertEqual(expected == "never", gain(n, choices + [(taken, others)]) is not None)
            # More that was seen turns neither sure nor never.
            further = choices + [(taken, others)] if expected == "may" else choices + wise_choices(chance, n, 1, 3)
            if explained(n, further) and expected != "may":
                self.assertEqual(verdict(n, further, taken, others), expected)
        self.assertGreater(min(counts.values()), 30)

    def test_errors(self):
        for n in NO_N:
            self.refuses(BadNumber, "number", n, verdict, n, None, None, None)
        for choices in NO_LISTS:
            self.refuses(BadChoice, "index", 0, verdict, 2, choices, None, None)
        self.refuses(BadChoice, "index", 1, verdict, 2, AGAINST[:1] + [3], None, None)
        for choices in (SEEN, AGAINST):
            for taken in NO_AMOUNTS + [(1,), (1, 1, 1), [True, 1]]:
                self.refuses(BadAmount, "amount", taken, verdict, 2, choices, taken, None)
            for others in NO_LISTS:
                self.refuses(BadAmounts, "index", 0, verdict, 2, choices, (1, 1), others)
            for other in NO_AMOUNTS + [(1,), (1, 1, 1), [True, 1]]:
                self.refuses(BadAmounts, "index", 1, verdict, 2, choices, (1, 1), [(1, 1), other, other])
        self.refuses(Unexplained, None, None, verdict, 2, AGAINST, (1, 1), [])
        self.refuses(Unexplained, None, None, verdict, 2, RIM, (1, 1), [(1, 2)])


class Lots(Case):

    def test_could_be(self):
        lot = [(3, 1), (2, 2), (0, 9), (2, 2), (1, 4)]
        self.tells([(2, 2), (3, 1)], could_be, 2, SEEN, lot)
        self.tells([(0, 9), (1, 4), (2, 2), (3, 1)], could_be, 2, [], lot)
        self.tells([(0, 5)], could_be, 2, SEEN, [(0, 5), (0, 5)])

    def test_ties_could_be(self):
        pinned = [((1, 1), [(0, 2)]), ((0, 2), [(1, 1)])]
        self.tells([(0, 3), (1, 2), (3, 0)], could_be, 2, pinned, [(3, 0), (1, 2), (2, 2), (0, 3)])

    def test_open_pairs(self):
        self.tells([((2, 2), (3, 1))], open_pairs, 2, SEEN, [(3, 1), (2, 2), (2, 2), (0, 9)])
        self.tells([], open_pairs, 2, SEEN, [(3, 1)])
        self.tells([], open_pairs, 2, SEEN, [(3, 1), (3, 1)])
        # At the rim of what explains both cost the same; a pair is not open where one of both never costs less.
        self.tells([], open_pairs, 2, [((1, 1), [(0, 2)])], [(1, 1), (0, 2)])
        self.tells([((0, 1), (1, 0))], open_pairs, 2, [], [(1, 0), (0, 1), (1, 1)])

    def test_next_pair(self):
        self.tells(((2, 2), (3, 1)), next_pair, 2, SEEN, [(3, 1), (2, 2), (2, 2), (0, 9)])
        self.tells(None, next_pair, 2, SEEN, [(3, 1)])
        self.tells(None, next_pair, 1, [], [(3,), (4,)])
        lot = [(0, 8), (1, 5), (2, 3), (4, 1), (6, 0)]
        self.tells(plain_next(2, [], lot), next_pair, 2, [], lot)

    def test_by_chance(self):
        chance = chance_of(125)
        opened = 0
        for _ in range(120):
            n = chance.randint(1, 3)
            choices = wise_choices(chance, n, chance.randint(0, 3), 8)
            lot = [tuple(chance.randint(0, 5) for _ in range(n)) for _ in range(chance.randint(1, 5))]
            lot += lot[:chance.randint(0, 2)]
            self.tells(plain_could_be(n, choices, lot), could_be, n, choices, lot)
            pairs = plain_open(n, choices, lot)
            opened += len(pairs)
            self.tells(pairs, open_pairs, n, choices, lot)
            self.tells(plain_next(n, choices, lot), next_pair, n, choices, lot)
            for one, other in pairs:
                for answer in ((one, [other]), (other, [one])):
                    self.assertNotIn((one, other), open_pairs(n, choices + [answer], lot))
                    left = could_be(n, choices + [answer], lot)
                    self.assertTrue(set(left) <= set(could_be(n, choices, lot)))
        self.assertGreater(opened, 60)

    def test_asking_to_the_end(self):
        chance = chance_of(126)
        for n in (2, 3):
            lot = [tuple(chance.randint(0, 30) for _ in range(n)) for _ in range(7)]
            prices = [chance.randint(1, 9) for _ in range(n)]
            choices, asked = [], 0
            while next_pair(n, choices, lot) is not None:
                pair = sorted(next_pair(n, choices, lot), key=lambda row: product(row, prices))
                choices.append((pair[0], [pair[1]]))
                asked += 1
            self.assertLessEqual(asked, 21)
            best = min(product(row, prices) for row in lot)
            self.assertTrue(any(product(row, prices) == best for row in could_be(n, choices, lot)))
            self.assertEqual(open_pairs(n, choices, lot), [])

    def test_great_lots(self):
        chance = chance_of(127)
        for n in (2, 3):
            choices = wise_choices(chance, n, 8, 1000)
            lot = [tuple(chance.randint(0, 1000) for _ in range(n)) for _ in range(10)]
            self.assertEqual(could_be(n, choices, lot), plain_could_be(n, choices, lot))
            self.assertEqual(next_pair(n, choices, lot), plain_next(n, choices, lot))

    def test_errors(self):
        for call in (could_be, open_pairs, next_pair):
            for n in NO_N:
                self.refuses(BadNumber, "number", n, call, n, None, None)
            for choices in NO_LISTS:
                self.refuses(BadChoice, "index", 0, call, 2, choices, None)
            for choices in (SEEN, AGAINST):
                for lot in NO_LISTS + [[], ()]:
                    self.refuses(BadAmounts, "index", 0, call, 2, choices, lot)
                for bad in NO_AMOUNTS + [(1,), (1, 1, 1), [True, 1]]:
                    self.refuses(BadAmounts, "index", 1, call, 2, choices, [(1, 1), bad, bad])
            self.refuses(Unexplained, None, None, call, 2, AGAINST, [(1, 1)])
            self.refuses(Unexplained, None, None, call, 2, RIM, [(1, 1)])

    def test_the_lowest_terms_of_corners(self):
        for rows in all_of(range(4), repeat=4):
            told = explaining(2, [(rows[:2], [rows[2:]])])
            self.assertTrue(told is None or all(lowest(corner) == corner for corner in told))


if __name__ == "__main__":
    unittest.main()
