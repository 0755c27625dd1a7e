"""Promise 16.6: trees that are the same but for modes."""

import unittest
from itertools import product as all_of

from anyprice.formsof import form_front, with_modes
from anyprice.operators import tree_amount, tree_set
from anyprice.questions import rows_of
from anyprice.refusals import BadQuestion, BadTree
from helpers import NO_LISTS, Case, chance_of, plain_least
from operatorways import (OTHER_COLUMNS, OTHER_NAMES, OTHER_WORDS, inner_trees, renamed, renamed_tree, some_big_question)
from test_operators import A, B, KINDS, MODES, SORTED_A, SORTED_B, size_of, some_trees
from test_questions import PAIR, PLAIN, some_base, some_question


def with_parts(tree, parts):
    if len(parts) == 2:
        return tree[:2] + tuple(parts) + tree[4:]
    return (tree[0], parts[0], tree[2]) if parts else tree


def form_of(tree):
    """All trees of its form."""
    inner = [form_of(part) for part in inner_trees(tree)]
    found = [with_parts(tree, parts) for parts in all_of(*inner)]
    if len(inner) == 2:
        found = [(one[0], mode) + one[2:] for one in found for mode in MODES]
    return found


def without_modes(tree):
    inner = [without_modes(part) for part in inner_trees(tree)]
    return with_parts((tree[0], None) + tree[2:] if len(inner) == 2 else tree, inner)


class Forms(Case):

    def check(self, base, question, tree):
        amounts = {tree_amount(base, question, other) for other in form_of(tree)}
        told = self.told(form_front, base, question, tree)
        self.assertEqual(told, plain_least(amounts))
        self.assertEqual(len({amount[0] for amount in amounts}), 1)
        for amount in told:
            other = self.told(with_modes, base, question, tree, amount)
            self.assertEqual(tree_amount(base, question, other), amount)
            self.assertEqual(without_modes(other), without_modes(tree))
        for amount in amounts - set(told):
            self.tells(None, with_modes, base, question, tree, amount)
        return told

    def test_the_example(self):
        self.assertEqual(self.check(PAIR, PLAIN, ("boxes", "left", A, B)), [(20, 16, 16)])
        self.assertEqual(self.check(PAIR, PLAIN, ("loops", "right", A, B)), [(24, 20, 12)])
        self.assertEqual(self.check(PAIR, PLAIN, ("merge", "left", SORTED_A, SORTED_B, 0)), [(36, 24, 16), (36, 36, 12)])
        self.assertEqual(self.check(PAIR, PLAIN, SORTED_A), [(12, 12, 8)])
        self.tells(SORTED_A, with_modes, PAIR, PLAIN, SORTED_A, (12, 12, 8))

    def test_any_object_as_amount(self):
        for thing in NO_LISTS + [[], (20, 16), (20, 16, 17), (20, 16, True), (20, 20, 16), ("20", 16, 16), (None,) * 3, [[20, 16, 16]]]:
            self.tells(None, with_modes, PAIR, PLAIN, ("boxes", "left", A, B), thing)

    def test_by_chance(self):
        chance = chance_of(166)
        modes = dict.fromkeys(range(4), 0)
        seen = dict.fromkeys(KINDS, 0)
        for _ in range(120):
            base = some_base(chance, 6)
            question = some_question(chance, base, chance.choice([2, 3, 4]))
            for tree in some_trees(chance, base, question, 18)[-4:]:
                several = self.check(base, question, tree)
                modes[min(3, len(several))] += 1
                seen[tree[0]] += 1
        self.assertGreater(min(modes[1], modes[2]), 20)

    def test_who_goes_first(self):
        chance = chance_of(167)
        checked = 0
        for _ in range(80):
            base = some_base(chance, 6)
            question = some_question(chance, base, chance.choice([2, 3]))
            for tree in some_trees(chance, base, question, 12):
                if tree[0] in ("loops", "boxes", "merge"):
                    checked += 1
                    amounts = {mode: tree_amount(base, question, (tree[0], mode) + tree[2:]) for mode in MODES}
                    self.assertEqual(len({amount[0] for amount in amounts.values()}), 1)
                    for mode in ("left", "right"):
                        self.assertLessEqual(amounts["beside"][1], amounts[mode][1])
                        self.assertGreaterEqual(amounts["beside"][2], amounts[mode][2])
                    above = [tree_amount(base, question, part)[2] - len(rows_of(base, question, tree_set(base, question, part)))
                             for part in tree[2:4]]
                    if above[0] >= above[1]:
                        self.assertLessEqual(amounts["left"][2], amounts["right"][2])
                    if above[1] >= above[0]:
                        self.assertLessEqual(amounts["right"][2], amounts["left"][2])
        self.assertGreater(checked, 150)

    def test_names_are_only_names(self):
        chance = chance_of(168)
        for _ in range(25):
            base = some_base(chance, 5)
            question = some_question(chance, base, 3)
            further, other = renamed(base, question, OTHER_WORDS, OTHER_NAMES, OTHER_COLUMNS)
            tree = some_trees(chance, base, question, 14)[-1]
            turned = renamed_tree(tree, OTHER_WORDS, OTHER_COLUMNS)
            for amount in form_front(base, question, tree):
                told = with_modes(base, question, tree, amount)
                self.assertEqual(with_modes(further, other, turned, amount), renamed_tree(told, OTHER_WORDS, OTHER_COLUMNS))

    def test_thirty_operators(self):
        chance = chance_of(169)
        base, question = some_big_question(chance, 4, 4)
        tree = ("all", "p")
        for at, word in enumerate("qrs"):
            tree = ("boxes", "left", ("sort", tree, question[1][at][0]), ("sort", ("all", word), question[1][at][1]))
        while size_of(tree) < 30:
            tree = ("sort", tree, question[1][0][0])
        self.check(base, question, tree)

    def test_errors_in_their_order(self):
        for thing in NO_LISTS + [[], ("all",), ("all", "c"), ("tested", A, 0), ("loops", "up", A, B)]:
            self.refuses(BadTree, "tree", thing, form_front, PAIR, PLAIN, thing)
            self.refuses(BadTree, "tree", thing, with_modes, PAIR, PLAIN, thing, None)
            self.refuses(BadQuestion, "question", thing, form_front, PAIR, thing, None)
            self.refuses(BadQuestion, "question", thing, with_modes, PAIR, thing, None, None)


if __name__ == "__main__":
    unittest.main()
