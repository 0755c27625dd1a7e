"""Promise 13.6, and 13.7 as far as it tells of it: what is kept along a line of prices."""

import unittest
from fractions import Fraction

from anyprice.errors import BadAmounts, BadPrices
from anyprice.kept import apart, are_apart, kept
from anyprice.refusals import BadShare
from helpers import EXAMPLE, NO_AMOUNTS, NO_INTEGERS, NO_LISTS, NO_PAIRS, Case, bowl, chance_of, product
from test_within import AMOUNTS, some_lot

ONE, OTHER = (1, 1), (1, 4)
NONE = (0, 1)


def plain_stretch(amounts, one, other, share, amount):
    """The first and the last place where the amount serves, None if there is none."""
    low, high = Fraction(0), Fraction(1)
    for beside in amounts:
        first = product(amount, one) - (1 + share) * product(beside, one)
        last = product(amount, other) - (1 + share) * product(beside, other)
        if first > 0 and last > 0:
            return None
        if first > 0:
            low = max(low, first / (first - last))
        if last > 0:
            high = min(high, first / (first - last))
    return (low, high) if low <= high else None


def plain_kept(amounts, one, other, share):
    stretches = {amount: plain_stretch(amounts, one, other, share, amount) for amount in sorted(amounts)}
    triples, place = [], Fraction(0)
    while not triples or place < 1:
        serving = [amount for amount, pair in stretches.items() if pair and pair[0] <= place <= pair[1]]
        best = max(serving, key=lambda amount: stretches[amount][1])
        triples.append((best, as_pair(place), as_pair(stretches[best][1])))
        place = stretches[best][1]
    return triples


def as_pair(fraction):
    return (fraction.numerator, fraction.denominator)


class Kept(Case):

    def check(self, amounts, one, other, share):
        """That kept is so by the words, and apart tells as many places, no two of which one amount serves."""
        worth = Fraction(*share)
        told = self.told(kept, amounts, one, other, share)
        self.assertEqual(told, plain_kept(amounts, one, other, worth))
        self.assertTrue(all(type(triple) is tuple for triple in told))
        places = self.told(apart, amounts, one, other, share)
        self.assertEqual(len(places), len(told))
        self.tells(True, are_apart, amounts, one, other, share, places)
        worths = [Fraction(*place) for place in places]
        self.assertEqual(places, [as_pair(place) for place in worths])
        self.assertTrue(0 <= worths[0] and worths[-1] <= 1 and worths == sorted(set(worths)))
        for amount in amounts:
            pair = plain_stretch(amounts, one, other, worth, amount)
            self.assertTrue(pair is None or len([place for place in worths if pair[0] <= place <= pair[1]]) <= 1)
        return told

    def test_the_example(self):
        self.tells([((2, 3), (0, 1), (1, 6)), ((5, 1), (1, 6), (1, 1))], kept, AMOUNTS, ONE, OTHER, NONE)
        self.tells([((5, 1), (0, 1), (1, 1))], kept, AMOUNTS, ONE, OTHER, (1, 5))
        self.tells(True, are_apart, AMOUNTS, ONE, OTHER, NONE, [(0, 1), (1, 1)])
        self.check(AMOUNTS, ONE, OTHER, NONE)
        self.check(AMOUNTS, ONE, OTHER, (1, 5))

    def test_back_to_a_multiple(self):
        # All along, prices are multiples of where the line begins.
        self.tells([((2, 3), (0, 1), (1, 1))], kept, AMOUNTS, ONE, (7, 7), NONE)
        self.tells([((2, 3), (0, 1), (1, 1))], kept, AMOUNTS, ONE, ONE, NONE)
        self.tells([(0, 1)], apart, AMOUNTS, ONE, (7, 7), NONE)

    def test_one_amount(self):
        for share in (NONE, (3, 2)):
            self.tells([((4, 0), (0, 1), (1, 1))], kept, [(4, 0)], ONE, OTHER, share)
            self.tells([(0, 1)], apart, [(4, 0)], ONE, OTHER, share)

    def test_the_least_of_several(self):
        self.tells([((0, 5), (0, 1), (1, 1))], kept, [(5, 0), (1, 4), (0, 5)], ONE, ONE, NONE)
        # (0, 5) serves no farther than the place where all cost the same.
        self.tells([((5, 0), (0, 1), (1, 1))], kept, [(5, 0), (1, 4), (0, 5)], ONE, (1, 2), NONE)

    def test_what_costs_nothing(self):
        self.tells([((0, 0), (0, 1), (1, 1))], kept, [(3, 4), (0, 0)], ONE, OTHER, (10, 1))

    def test_shares(self):
        # Not in lowest terms; just enough, and just too little for (5, 1) at the first place: 6 against 5.
        self.tells(kept(AMOUNTS, ONE, OTHER, (1, 5)), kept, AMOUNTS, ONE, OTHER, (20, 100))
        self.assertEqual(len(self.check(AMOUNTS, ONE, OTHER, (19, 100))), 2)
        self.assertEqual(len(self.check(AMOUNTS, ONE, OTHER, (10, 1))), 1)
        self.assertEqual(len(self.check(AMOUNTS, ONE, OTHER, (0, 7))), 2)

    def test_by_chance(self):
        chance = chance_of(136)
        lengths = set()
        for _ in range(400):
            n = chance.randint(1, 3)
            amounts = some_lot(chance, n, 8, chance.choice([4, 9, 30]))
            one, other = [tuple(chance.randint(1, 9) for _ in range(n)) for _ in range(2)]
            share = chance.choice([NONE, (0, 5), (1, 10), (1, 3), (2, 100), (3, 1), (50, 100)])
            lengths.add(len(self.check(amounts, one, other, share)))
        self.assertGreater(max(lengths), 2)

    def test_twelve_amounts(self):
        chance = chance_of(1361)
        for n in (2, 3):
            amounts = bowl(chance, n, 12, 1000)
            one = (1000,) + (1,) * (n - 1)
            for share in (NONE, (1, 100), (1, 10)):
                self.check(amounts, one, one[::-1], share)
        self.assertGreater(len(kept(bowl(chance, 2, 12, 1000), (1000, 1), (1, 1000), NONE)), 8)

    def test_fewest(self):
        # A line from which no fewer places and amounts can be: are_apart of one place more is False everywhere.
        told = kept(AMOUNTS, ONE, OTHER, NONE)
        places = [(number, 24) for number in range(25)]
        for one in places:
            for other in places:
                for third in places:
                    self.assertFalse(are_apart(AMOUNTS, ONE, OTHER, NONE, [one, other, third]))
        self.assertEqual(len(told), 2)

    def test_any_object(self):
        ask = [AMOUNTS, ONE, OTHER, NONE]
        for thing in NO_LISTS + [[None], [()], [(0,)], [(0, 1, 2)], [(0, 0)], [(1, 0)], [(-1, 2)], [(3, 2)], [(0, -1)], [0],
                                 [True], ["ab"], [EXAMPLE], [(0, 1), (0, 1)], [(1, 1), (0, 1)], [(0, 1), (2, 2), (1, 1)],
                                 [(0, 1), (1, 12)], [(1, 6), (1, 1)], [(0, 1), (1, 6)], [(False, 1)], [(0, True)]]:
            self.tells(False, are_apart, *ask, thing)
        for number in NO_INTEGERS:
            self.tells(False, are_apart, *ask, [(number, 1)])
        # However short; not in lowest terms; just behind the wall.
        for thing in ([], (), [(0, 1)], [[3, 7]], [(1, 6)], [(0, 5), (6, 6)], [(0, 1), (17, 100)], [[4, 24], [4, 24]][:1],
                      [(1, 7), (1, 5)]):
            self.tells(True, are_apart, *ask, thing)

    def test_errors(self):
        calls = [(kept, []), (apart, []), (are_apart, [None]), (are_apart, [[]])]
        for call, rest in calls:
            for amounts in NO_LISTS + [[], ()]:
                self.refuses(BadAmounts, "index", 0, call, amounts, None, None, None, *rest)
            for bad in NO_AMOUNTS + [(1,), (1, 1, 1), [True, 1], (0, 6), [0, 6]]:
                self.refuses(BadAmounts, "index", 2, call, [(0, 6), (1, 1), bad, bad], None, None, None, *rest)
            for bad in NO_PAIRS:
                self.refuses(BadPrices, "prices", bad, call, AMOUNTS, bad, None, None, *rest)
                self.refuses(BadPrices, "prices", bad, call, AMOUNTS, ONE, bad, None, *rest)
            for bad in NO_LISTS + [[], (), (1,), (1, 2, 3), (1, 0), (-1, 2), (1, -2), (True, 2), (1, True), "ab", [None, 1]]:
                self.refuses(BadShare, "share", bad, call, AMOUNTS, ONE, OTHER, bad, *rest)


if __name__ == "__main__":
    unittest.main()
