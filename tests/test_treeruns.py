"""Promise 16.3, and 15.5 as far as it tells of runs: runs of operator trees."""

import unittest

from anyprice.bases import Base
from anyprice.operators import tree_amount, tree_order, tree_set
from anyprice.questions import answer_of, rows_of
from anyprice.refusals import BadQuestion, BadTree
from anyprice.ties import closed_question
from anyprice.treeruns import run_tree
from helpers import NO_LISTS, Case, chance_of, is_at_most
from operatorways import as_rows, is_a_tree_of, plain_order
from test_operators import A, B, INDEXED, KINDS, MODES, SORTED_A, SORTED_B, size_of, some_trees
from test_questions import AK, FOUR, PAIR, PICKED, PLAIN, some_base, some_question


class Runs(Case):

    def check(self, base, question, tree):
        rows, amount = self.told(run_tree, base, question, tree)
        self.assertEqual(rows, as_rows(question, plain_order(base, question, tree)))
        self.assertEqual(sorted(rows), sorted(rows_of(base, question, tree_set(base, question, tree))))
        self.assertEqual(amount, tree_amount(base, question, tree))
        order = tree_order(base, question, tree)
        if order is not None:
            words, columns = tree_set(base, question, tree), base.all_tables()[dict(question[0])[order[0]]][0]
            numbers = [row[words.index(order[0])][columns.index(order[1])] for row in rows]
            self.assertEqual(numbers, sorted(numbers))

    def test_the_example(self):
        both = [((number,), (number,)) for number in (1, 2, 3, 4)]
        for tree, amount in (
            (("boxes", "beside", A, B), (20, 16, 16)), (("boxes", "left", A, B), (20, 20, 16)), (("loops", "beside", A, B), (24, 20, 12)),
            (("merge", "beside", SORTED_A, SORTED_B, 0), (36, 24, 16)), (("loops", "right", B, A), (24, 24, 12)),
        ):
            self.tells((both, amount), run_tree, PAIR, PLAIN, tree)
        self.tells(([((number,),) for number in (1, 2, 3, 4)], (12, 12, 8)), run_tree, PAIR, PLAIN, SORTED_A)
        self.tells((both, (12, 12, 8)), run_tree, INDEXED, PLAIN, ("step", A, 0))
        self.tells(([((2,),)], (4, 4, 1)), run_tree, PAIR, PICKED, A)

    def test_the_order_of_rows(self):
        base = Base({"t": (["k", "n"], [(3, 1), (1, 2), (3, 3), (1, 4), (2, 5), (1, 2)], ["k"]), "u": (["k"], [(3,), (1,), (1,), (9,)], ["k"])})
        question = ([("p", "t"), ("q", "u")], [(("p", "k"), ("q", "k"))], [(("p", "k"), 1)], [("p", "n")], None)
        bare = question[:2] + ([],) + question[3:]
        p, q = ("all", "p"), ("all", "q")
        ones = [((1, 2),), ((1, 4),), ((1, 2),)]
        self.tells((ones, (6, 6, 3)), run_tree, base, question, p)
        self.tells((ones, (4, 4, 3)), run_tree, base, question, ("by", 0))
        self.tells((ones, (12, 12, 3)), run_tree, base, question, ("along", "p", "k"))
        along = [((1, 2),), ((1, 4),), ((1, 2),), ((2, 5),), ((3, 1),), ((3, 3),)]
        self.tells((along, (12, 12, 6)), run_tree, base, bare, ("along", "p", "k"))
        # Three rounds of six rows.
        self.tells((along, (24, 24, 12)), run_tree, base, bare, ("sort", p, ("p", "k")))
        one, two, four, three = (3, 1), (1, 2), (1, 4), (3, 3)
        for tree, rows in (
            (("loops", "left", p, q), [(one, (3,)), (two, (1,)), (two, (1,)), (three, (3,)), (four, (1,)), (four, (1,)), (two, (1,)), (two, (1,))]),
            (("boxes", "left", p, q), [(one, (3,)), (three, (3,))] + [(two, (1,)), (four, (1,)), (two, (1,))] * 2),
            (("boxes", "right", q, p), [(one, (3,)), (two, (1,)), (two, (1,)), (three, (3,)), (four, (1,)), (four, (1,)), (two, (1,)), (two, (1,))]),
            (("merge", "beside", ("along", "p", "k"), ("along", "q", "k"), 0),
             [(two, (1,)), (two, (1,)), (four, (1,)), (four, (1,)), (two, (1,)), (two, (1,)), (one, (3,)), (three, (3,))]),
            (("step", q, 0), [(one, (3,)), (three, (3,))] + [(two, (1,)), (four, (1,)), (two, (1,))] * 2),
        ):
            self.assertEqual(run_tree(base, bare, tree)[0], rows)
            self.check(base, bare, tree)

    def test_every_operator_in_every_mode_and_order(self):
        base = Base({"t": (["k", "n"], [(2, 1), (1, 2), (2, 2), (1, 1), (2, 1)], ["k", "n"])})
        pk, pn, qk, qn = [(word, column) for word in "pq" for column in "kn"]
        question = ([("p", "t"), ("q", "t")], [(pk, qk), (qn, pn)], [(qk, 2)], [pk], pn)
        ones = [("all", "p"), ("along", "p", "k"), ("along", "p", "n"), ("sort", ("all", "p"), pk), ("sort", ("along", "p", "k"), pn)]
        others = [("all", "q"), ("by", 0), ("along", "q", "n"), ("sort", ("by", 0), qk), ("sort", ("sort", ("all", "q"), qk), qn)]
        for one in ones + others:
            self.check(base, question, one)
        for mode in MODES:
            for one in ones:
                for other in others:
                    for x, y in ((one, other), (other, one)):
                        self.check(base, question, ("loops", mode, x, y))
                        self.check(base, question, ("boxes", mode, x, y))
            for x, y, number in ((ones[1], others[3], 0), (ones[3], others[3], 0), (others[3], ones[1], 0), (ones[2], others[2], 1),
                                 (others[4], ones[4], 1)):
                self.check(base, question, ("merge", mode, x, y, number))
                self.check(base, question, ("sort", ("merge", mode, x, y, number), pk))
        for one in ones:
            self.check(base, question, ("step", one, 0))
            self.check(base, question, ("step", one, 1))

    def test_tables_without_rows_and_rows_alike(self):
        for rows in ([], [(1,)], [(1,)] * 5, [(number,) for number in range(17, 0, -1)]):
            base = Base({"a": (["k"], rows, ["k"]), "b": FOUR})
            for tree in (A, SORTED_A, ("along", "a", "k"), ("sort", ("along", "a", "k"), AK), ("boxes", "left", A, B), ("loops", "beside", B, A),
                         ("merge", "right", SORTED_A, SORTED_B, 0), ("merge", "beside", SORTED_B, ("along", "a", "k"), 0), ("step", B, 0)):
                self.check(base, PLAIN, tree)

    def test_by_chance(self):
        chance = chance_of(163)
        seen = dict.fromkeys(KINDS, 0)
        for _ in range(200):
            base = some_base(chance, 6)
            question = some_question(chance, base, chance.randint(1, 4))
            trees = some_trees(chance, base, question, 14)
            for tree in trees[:1] + trees[-6:]:
                seen[tree[0]] += 1
                self.check(base, question, tree)
        self.assertGreater(min(seen.values()), 5)

    def test_each_tree_of_the_question_brings_its_answer(self):
        chance = chance_of(164)
        several = 0
        for _ in range(120):
            base = some_base(chance, 5)
            question = some_question(chance, base, chance.randint(1, 3))
            closed = closed_question(base, question)
            places = [([word for word, _ in question[0]].index(word), base.all_tables()[dict(question[0])[word]][0].index(column))
                      for word, column in question[3]]
            for tree in some_trees(chance, base, question, 14):
                if is_a_tree_of(base, question, tree):
                    several += 1
                    rows, amount = run_tree(base, question, tree)
                    answer = sorted(tuple(row[source][place] for source, place in places) for row in rows)
                    self.assertEqual(answer, answer_of(base, question))
                    # It is one of the closed question, and takes no more there.
                    self.assertTrue(is_a_tree_of(base, closed, tree))
                    further, less = run_tree(base, closed, tree)
                    self.assertEqual(further, rows)
                    self.assertTrue(is_at_most(less, amount))
        self.assertGreater(several, 200)

    def test_thirty_operators(self):
        table = (["k", "n"], [(row % 8, row) for row in range(30)], ["k"])
        base = Base({"t": table})
        joins = [(("p", "k"), ("q", "k")), (("q", "n"), ("r", "n")), (("r", "k"), ("s", "k"))]
        question = ([(word, "t") for word in "pqrs"], joins, [], [("p", "n")], ("s", "k"))
        tree = ("along", "p", "k")
        for number, word in enumerate("qrs"):
            mine, its = joins[number]
            tree = ("merge", MODES[number], ("sort", tree, mine), ("sort", ("all", word), its), number)
        while size_of(tree) < 30:
            tree = ("sort", tree, ("s", "k"))
        rows, amount = run_tree(base, question, tree)
        self.assertEqual(amount, tree_amount(base, question, tree))
        self.assertEqual(len(rows), 438)
        self.assertEqual(sorted(rows), sorted(rows_of(base, question, list("pqrs"))))

    def test_errors_in_their_order(self):
        for thing in NO_LISTS + [[], ("all",), ("all", "c"), ("tested", A, 0), ("sort", A, ("a", "n"))]:
            self.refuses(BadTree, "tree", thing, run_tree, PAIR, PLAIN, thing)
            if thing != ():
                self.refuses(BadQuestion, "question", thing, run_tree, PAIR, thing, None)


if __name__ == "__main__":
    unittest.main()
