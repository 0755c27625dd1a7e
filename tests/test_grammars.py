"""Promise 14.1: grammars."""

import unittest

from anyprice.errors import BadRule, BadSorts
from anyprice.grammars import Grammar
from anyprice.refusals import BadFaults
from helpers import EXAMPLE, NO_AMOUNTS, NO_LISTS, Case, spoil, swapped

SORTS = ["flat", "high"]
RULES = [("s", [("sign", "a"), ("name", "s"), ("sign", "b")], (0, 1), (0, 1)), ("s", [], (0, 1), (0, 0))]
FAULTS = ((1, 0), (1, 0), None)
# The grammar of the document's example 14.5.
NESTS = Grammar(SORTS, RULES, FAULTS)
GOOD = RULES[0]
# Each is no rule of a grammar for a flat and a high resource.
NO_RULES = NO_LISTS + [
    [], (), GOOD[:3], GOOD + ((0, 0),), EXAMPLE.all_rules()[0],
    ("", [], (0, 1), (0, 1)), ("abcdefghi", [], (0, 1), (0, 1)), ("S", [], (0, 1), (0, 1)), ("s1", [], (0, 1), (0, 1)),
    (1, [], (0, 1), (0, 1)), (None, [], (0, 1), (0, 1)), (["s"], [], (0, 1), (0, 1)), ("s s", [], (0, 1), (0, 1)),
    ("s", None, (0, 1), (0, 1)), ("s", "ab", (0, 1), (0, 1)), ("s", {}, (0, 1), (0, 1)), ("s", [None], (0, 1), (0, 1)),
    ("s", ["ab"], (0, 1), (0, 1)), ("s", [[]], (0, 1), (0, 1)), ("s", [("sign",)], (0, 1), (0, 1)),
    ("s", [("sign", "a", "b")], (0, 1), (0, 1)), ("s", [("sign", "")], (0, 1), (0, 1)), ("s", [("sign", "ab")], (0, 1), (0, 1)),
    ("s", [("sign", "A")], (0, 1), (0, 1)), ("s", [("sign", "-")], (0, 1), (0, 1)), ("s", [("sign", 1)], (0, 1), (0, 1)),
    ("s", [("sign", None)], (0, 1), (0, 1)), ("s", [("sign", "\u00b2")], (0, 1), (0, 1)), ("s", [("name", "")], (0, 1), (0, 1)),
    ("s", [("name", "abcdefghi")], (0, 1), (0, 1)), ("s", [("name", "a1")], (0, 1), (0, 1)), ("s", [("name", 1)], (0, 1), (0, 1)),
    ("s", [("Sign", "a")], (0, 1), (0, 1)), ("s", [(True, "a")], (0, 1), (0, 1)), ("s", [(EXAMPLE, "a")], (0, 1), (0, 1)),
    ("s", [("name", ["a"])], (0, 1), (0, 1)),
    ("s", [], (0,), (0, 1)), ("s", [], (0, 1, 2), (0, 1)), ("s", [], (0, -1), (0, 1)), ("s", [], (0, True), (0, 1)),
    ("s", [], None, (0, 1)), ("s", [], (0, 1), (1, 0)), ("s", [], (0, 1), (0,)), ("s", [], (0, 1), (0, -1)),
    ("s", [], (0, 1), (0, True)), ("s", [], (0, 1), (False, 0)), ("s", [], (0, 1), None), ("s", [], (0, 1), (0, "1")),
]
NO_SORTS = NO_LISTS + [[], (), ["flat"] * 4, ["Flat"], ["flat", None], ["flat", ["high"]], [0], ["times"]]


class Grammars(Case):

    def test_what_is_kept(self):
        grammar = Grammar(swapped(SORTS), swapped(RULES), swapped(FAULTS))
        for told in (NESTS, grammar, Grammar(sorts=SORTS, rules=RULES, faults=FAULTS)):
            self.tells(["flat", "high"], told.own_sorts)
            self.tells([("s", (("sign", "a"), ("name", "s"), ("sign", "b")), (0, 1), (0, 1)), ("s", (), (0, 1), (0, 0))],
                       told.all_rules)
            self.tells(((1, 0), (1, 0), None), told.own_faults)

    def test_equal_if_all_three_are(self):
        self.assertTrue(NESTS == Grammar(tuple(SORTS), swapped(RULES), list(FAULTS)))
        others = [Grammar(SORTS, RULES[::-1], FAULTS), Grammar(SORTS, RULES, ((1, 0), None, (1, 0))), Grammar(SORTS, [], FAULTS),
                  Grammar(["flat", "flat"], [("s", [], (0, 1), (0, 0))], FAULTS), EXAMPLE]
        for other in others + NO_LISTS + [[], RULES]:
            self.assertFalse(NESTS == other)
            self.assertTrue(NESTS != other)
        bare = [Grammar([sort], [], (None, None, None)) for sort in ("flat", "high")]
        self.assertFalse(bare[0] == bare[1])

    def test_what_is_passed_may_change_later(self):
        sorts, rules, faults = list(SORTS), [list(swapped(rule)) for rule in RULES], [[1, 0], [1, 0], None]
        grammar = Grammar(sorts, rules, faults)
        sorts[0] = "high"
        spoil(rules)
        faults[0][0] = 9
        faults[2] = (0, 0)
        self.assertTrue(grammar == NESTS)
        spoil(grammar.all_rules())
        spoil(grammar.own_sorts())
        self.assertTrue(grammar == NESTS)

    def test_all_kinds(self):
        Grammar(["high"], [("abcdefgh", [("sign", "0"), ("sign", "9"), ("name", "abcdefgh")], [1000], [1000])], ([0], (0,), None))
        Grammar(["flat"], [], (None, None, None))
        Grammar(["flat", "high", "flat"], [], ((3, 0, 4), (0, 0, 0), (1, 0, 0)))

    def test_errors(self):
        for sorts in NO_SORTS:
            self.refuses(BadSorts, "sorts", sorts, Grammar, sorts, None, None)
        for rules in NO_LISTS:
            self.refuses(BadRule, "index", 0, Grammar, SORTS, rules, None)
        for bad in NO_RULES:
            self.refuses(BadRule, "index", 1, Grammar, SORTS, [GOOD, bad, bad], None)
        faults = NO_LISTS + [[], (), FAULTS[:2], FAULTS + (None,), "abc"]
        amounts = [bad for bad in NO_AMOUNTS if bad is not None] + [(1,), (1, 1), (0, 1), (1, 0, 0), (True, 0), (-1, 0)]
        for bad in amounts:
            faults += [(bad, None, None), [None, bad, None], (None, (1, 0), bad)]
        for bad in faults:
            self.refuses(BadFaults, "faults", bad, Grammar, SORTS, RULES, bad)


if __name__ == "__main__":
    unittest.main()
