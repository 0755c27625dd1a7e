"""Promises 16.1 and 16.2, and 16.7 as far as it tells of amounts of trees: operator trees."""

import unittest

from anyprice.bases import Base
from anyprice.operators import is_operator_tree, tree_amount, tree_order, tree_set
from anyprice.refusals import BadQuestion, BadTree
from anyprice.ties import closed_question
from helpers import EXAMPLE, NO_INTEGERS, NO_LISTS, Case, chance_of, swapped
from test_questions import AK, BK, FOUR, PAIR, PICKED, PLAIN, columns_of, plain_rows, some_base, some_question
from test_ties import plain_tied

MODES = ("left", "right", "beside")
A, B = ("all", "a"), ("all", "b")
SORTED_A, SORTED_B = ("sort", A, AK), ("sort", B, BK)
# b.k is indexed.
INDEXED = Base({"a": FOUR, "b": (["k"], FOUR[1], ["k"])})
KINDS = ("all", "by", "along", "sort", "loops", "boxes", "merge", "step")


def group_with(base, question, words, column):
    """All columns tied to one in a set, itself too."""
    for group in plain_tied(base, question, words):
        if column in group:
            return group
    return [column]


def plain_look(base, question, tree):
    """The pair (words, order) of a tree that is one."""
    sources, joins, picks, _, _ = question
    if tree[0] == "by":
        return {picks[tree[1]][0][0]}, None
    if tree[0] in ("all", "along"):
        return {tree[1]}, (tree[1], tree[2]) if tree[0] == "along" else None
    if tree[0] == "sort":
        return plain_look(base, question, tree[1])[0], tree[2]
    if tree[0] == "step":
        words, order = plain_look(base, question, tree[1])
        return words | {column[0] for column in joins[tree[2]]}, order
    one, other = plain_look(base, question, tree[2]), plain_look(base, question, tree[3])
    if tree[0] == "merge":
        order = [column for column in joins[tree[4]] if column[0] in one[0]][0]
    else:
        order = one[1] if tree[0] == "loops" else other[1]
    return one[0] | other[0], order


def plain_weigh(base, question, tree):
    """The amount by the table of 16.2, each row counted."""
    sources, joins, picks, _, _ = question
    tables = base.all_tables()
    names = dict(sources)

    def rows(words):
        order = [word for word, _ in sources if word in words]
        told = []
        for row in plain_rows(base, question, words):
            told.append({(word, column): number for word, inner in zip(order, row)
                         for column, number in zip(tables[names[word]][0], inner)})
        return told

    def table(word):
        columns, inner, _ = tables[names[word]]
        return [{(word, column): number for column, number in zip(columns, row)} for row in inner]

    def put(own, time, need, room):
        return own, own + time, max(room, need)

    words = plain_look(base, question, tree)[0]
    size = len(rows(words))
    if tree[0] in ("all", "along"):
        return put(len(table(tree[1])) * (1 if tree[0] == "all" else 2), 0, 0, size)
    if tree[0] == "by":
        column, number = picks[tree[1]]
        return put(1 + len([row for row in table(column[0]) if row[column] == number]), 0, 0, size)
    if tree[0] in ("sort", "step"):
        inner = plain_look(base, question, tree[1])[0]
        steps, time, need = plain_weigh(base, question, tree[1])
        many = len(rows(inner))
        if tree[0] == "sort":
            rounds = min(p for p in range(20) if 2 ** p >= many)
            own, room = many * rounds, 2 * many
        else:
            mine, its = sorted(joins[tree[2]], key=lambda column: column[0] not in inner)
            own = many + sum(row[mine] == other[its] for row in rows(inner) for other in table(its[0]))
            room = many + size
        return own + steps, own + time, max(room, need)
    ones, others = plain_look(base, question, tree[2])[0], plain_look(base, question, tree[3])[0]
    one, other = plain_weigh(base, question, tree[2]), plain_weigh(base, question, tree[3])
    x, y = len(rows(ones)), len(rows(others))
    if tree[0] == "loops":
        own, room = x * y, x + y + size
    elif tree[0] == "boxes":
        own, room = x + y + size, 2 * x + y + size
    else:
        mine, its = sorted(joins[tree[4]], key=lambda column: column[0] not in ones)
        own, room = x + y + sum(a[mine] == b[its] for a in rows(ones) for b in rows(others)), x + y + size
    needs = {"left": max(one[2], x + other[2]), "right": max(other[2], y + one[2]), "beside": one[2] + other[2]}
    time = max(one[1], other[1]) if tree[1] == "beside" else one[1] + other[1]
    return own + one[0] + other[0], own + time, max(room, needs[tree[1]])


def trees_over(base, question, word):
    """All operators over a source alone."""
    tables = base.all_tables()
    indexed = tables[dict(question[0])[word]][2]
    found = [("all", word)] + [("along", word, column) for column in indexed]
    return found + [("by", number) for number, (column, _) in enumerate(question[2]) if column[0] == word and column[1] in indexed]


def further_trees(chance, base, question, trees):
    """Trees made of some, one operator more."""
    _, joins, _, _, by = question
    tables, names = base.all_tables(), dict(question[0])
    found = []
    one, other = chance.choice(trees), chance.choice(trees)
    ones, order = plain_look(base, question, one)
    others, beside = plain_look(base, question, other)
    for column in columns_of(base, question[0], ones):
        if column == by or any(column in join for join in joins):
            found.append(("sort", one, column))
    for number, join in enumerate(joins):
        for mine, its in (join, join[::-1]):
            if mine[0] in ones and its[0] not in ones and its[1] in tables[names[its[0]]][2]:
                found.append(("step", one, number))
    if not ones & others:
        mode = chance.choice(MODES)
        found.append(("loops", mode, one, other))
        for number, join in enumerate(joins):
            for mine, its in (join, join[::-1]):
                if mine[0] in ones and its[0] in others:
                    found.append(("boxes", mode, one, other))
                    if (order and beside and mine in group_with(base, question, ones, order)
                            and its in group_with(base, question, others, beside)):
                        found += [("merge", mode, one, other, number)] * 3
    return found


def some_trees(chance, base, question, many):
    trees = [tree for word, _ in question[0] for tree in trees_over(base, question, word)]
    for _ in range(many):
        further = further_trees(chance, base, question, trees)
        if further:
            trees.append(chance.choice(further))
    return trees


def size_of(tree):
    return 1 + sum(size_of(part) for part in tree if isinstance(part, tuple) and part and part[0] in KINDS)


class Trees(Case):

    def check(self, base, question, tree):
        self.tells(True, is_operator_tree, base, question, tree)
        words, order = plain_look(base, question, tree)
        self.tells([word for word, _ in question[0] if word in words], tree_set, base, question, tree)
        first = None if order is None else group_with(base, question, words, tuple(order))[0]
        self.tells(first, tree_order, base, question, tree)
        self.tells(plain_weigh(base, question, tree), tree_amount, base, question, tree)

    def test_the_example(self):
        for tree, amount, order in (
            (A, (4, 4, 4), None), (("boxes", "beside", A, B), (20, 16, 16), None), (("boxes", "left", A, B), (20, 20, 16), None),
            (("boxes", "right", A, B), (20, 20, 16), None), (("loops", "beside", A, B), (24, 20, 12), None), (SORTED_A, (12, 12, 8), AK),
            (("merge", "beside", SORTED_A, SORTED_B, 0), (36, 24, 16), AK),
            (("merge", "beside", SORTED_B, SORTED_A, 0), (36, 24, 16), AK),
        ):
            self.tells(amount, tree_amount, PAIR, PLAIN, tree)
            self.tells(order, tree_order, PAIR, PLAIN, tree)
            self.check(PAIR, PLAIN, tree)
        self.tells((12, 12, 8), tree_amount, INDEXED, PLAIN, ("step", A, 0))
        self.check(INDEXED, PLAIN, ("step", A, 0))
        self.check(INDEXED, PLAIN, ("along", "b", "k"))

    def test_picks(self):
        self.tells((4, 4, 1), tree_amount, PAIR, PICKED, A)
        self.check(PAIR, PICKED, ("boxes", "left", A, B))
        closed = closed_question(INDEXED, PICKED)
        self.tells((2, 2, 1), tree_amount, INDEXED, closed, ("by", 1))
        self.check(INDEXED, closed, ("step", A, 0))
        self.tells(False, is_operator_tree, INDEXED, closed, ("by", 0))
        self.tells(False, is_operator_tree, INDEXED, closed, ("by", 2))
        # A pick that holds for none.
        none = (PLAIN[0], PLAIN[1], [(BK, 9)], [AK], None)
        self.tells((1, 1, 0), tree_amount, INDEXED, none, ("by", 0))
        self.tells((1, 1, 0), tree_amount, INDEXED, none, ("sort", ("by", 0), BK))
        self.check(INDEXED, none, ("merge", "right", ("sort", A, AK), ("along", "b", "k"), 0))

    def test_sorts(self):

        for many, rounds in ((0, 0), (1, 0), (2, 1), (3, 2), (4, 2), (5, 3), (8, 3), (9, 4), (16, 4), (17, 5), (30, 5)):
            base = Base({"a": (["k"], [(number,) for number in range(many)], []), "b": FOUR})
            self.tells((many + many * rounds,) * 2 + (2 * many,), tree_amount, base, PLAIN, SORTED_A)

    def test_columns_that_can_be_sorted_by(self):
        base = Base({"a": (["k", "n"], [(1, 2)], ["n"]), "b": FOUR})
        an = ("a", "n")
        for by, expected in ((None, False), (an, True), (BK, False)):
            question = (PLAIN[0], PLAIN[1], [], [AK], by)
            self.tells(expected, is_operator_tree, base, question, ("sort", A, an))
            self.tells(True, is_operator_tree, base, question, ("sort", A, AK))
            self.tells(True, is_operator_tree, base, question, ("sort", B, BK))
            # Its column is none of the set.
            self.tells(False, is_operator_tree, base, question, ("sort", A, BK))
            self.tells(True, is_operator_tree, base, question, ("along", "a", "n"))
            self.tells(False, is_operator_tree, base, question, ("along", "a", "k"))

    def test_orders(self):
        # In the set of both k and k are tied, so that the order is told by the first one.
        question = ([("b", "b"), ("a", "a")], [(AK, BK)], [], [AK], None)
        self.tells(AK, tree_order, PAIR, question, SORTED_A)
        self.tells(BK, tree_order, PAIR, question, ("loops", "left", SORTED_A, B))
        self.tells(None, tree_order, PAIR, question, ("loops", "left", A, SORTED_B))
        self.tells(BK, tree_order, PAIR, question, ("boxes", "left", A, SORTED_B))
        self.tells(None, tree_order, PAIR, question, ("boxes", "left", SORTED_A, B))
        self.tells(["b", "a"], tree_set, PAIR, question, ("loops", "left", A, B))

    def test_merges(self):
        tied = Base({"t": (["k", "n"], [(1, 1), (1, 2), (2, 1), (2, 2)], ["k"])})
        pk, pn, qk, qn, rk, rn = [(word, column) for word in "pqr" for column in "kn"]
        sources = [(word, "t") for word in "pqr"]
        question = (sources, [(pk, qk), (qn, rn), (rk, pk)], [], [pk], None)
        both = ("merge", "left", ("along", "p", "k"), ("sort", ("all", "q"), qk), 0)
        for tree in (both, ("sort", both, qk), ("sort", both, pk)):
            # By q's k, too, as both are tied; p's is joined with r's.
            self.check(tied, question, ("merge", "beside", tree, ("along", "r", "k"), 2))
            self.check(tied, question, ("merge", "beside", ("along", "r", "k"), tree, 2))
            for number in (0, 1, 3, -1, True, None):
                self.tells(False, is_operator_tree, tied, question, ("merge", "beside", tree, ("along", "r", "k"), number))
        self.tells(False, is_operator_tree, tied, question, ("merge", "left", ("all", "p"), ("along", "r", "k"), 2))
        self.tells(False, is_operator_tree, tied, question, ("merge", "left", ("along", "p", "k"), ("all", "r"), 2))
        self.tells(False, is_operator_tree, tied, question, ("merge", "left", ("along", "p", "k"), ("along", "q", "k"), 2))

    def test_steps(self):
        question = ([("a", "a"), ("b", "b"), ("c", "b")], [(BK, AK), (("c", "k"), AK)], [(BK, 2)], [AK], AK)
        for number in (0, 1):
            self.check(INDEXED, question, ("step", A, number))
            self.check(INDEXED, question, ("step", SORTED_A, number))
        self.check(INDEXED, question, ("step", ("step", A, 0), 1))
        for tree in (("step", B, 0), ("step", B, 1), ("step", ("step", A, 0), 0), ("step", A, 2), ("step", A, -1), ("step", A, False)):
            # a.k is no indexed column; c is not b; b is there already.
            self.tells(False, is_operator_tree, INDEXED, question, tree)

    def test_one_table_as_several_sources(self):
        question = ([("a", "b"), ("b", "b")], [(AK, BK)], [(AK, 1), (AK, 2), (BK, 1)], [AK], AK)
        for tree in (("by", 0), ("by", 1), ("by", 2), ("step", ("by", 2), 0), ("boxes", "beside", ("by", 0), ("by", 2)),
                     ("merge", "right", ("along", "a", "k"), ("along", "b", "k"), 0)):
            self.check(INDEXED, question, tree)

    def test_by_chance(self):
        chance = chance_of(161)
        seen = dict.fromkeys(KINDS, 0)
        for _ in range(120):
            base = some_base(chance, 5)
            question = some_question(chance, base, chance.randint(1, 3))
            trees = some_trees(chance, base, question, 12)
            for tree in chance.sample(trees, min(5, len(trees))) + trees[-2:]:
                if size_of(tree) <= 12:
                    seen[tree[0]] += 1
                    self.check(base, question, tree)
        self.assertGreater(min(seen.values()), 5)

    def test_spoilt_trees_by_chance(self):
        # What is changed in one place is a tree exactly if further_trees would make it of its parts.
        chance = chance_of(162)
        counts = {True: 0, False: 0}
        for _ in range(150):
            base = some_base(chance, 3)
            question = some_question(chance, base, chance.randint(1, 3))
            trees = some_trees(chance, base, question, 8)
            words = [word for word, _ in question[0]]
            kind = chance.choice(KINDS)
            one, other = chance.choice(trees), chance.choice(trees)
            number = chance.randint(0, 5)
            tree = {"all": ("all", chance.choice(words)), "by": ("by", number), "along": ("along", chance.choice(words), "m"),
                    "sort": ("sort", one, chance.choice(columns_of(base, question[0]))), "step": ("step", one, number),
                    "merge": ("merge", "left", one, other, number)}.get(kind, (kind, "left", one, other))
            expected = self.is_plain_tree(base, question, tree)
            counts[expected] += 1
            self.tells(expected, is_operator_tree, base, question, tree)
        self.assertGreater(min(counts.values()), 30)

    def is_plain_tree(self, base, question, tree):
        """By the words of 16.1; parts are trees."""
        _, joins, picks, _, by = question
        tables, names = base.all_tables(), dict(question[0])

        def indexed(column):
            return column[1] in tables[names[column[0]]][2]

        if tree[0] == "all":
            return True
        if tree[0] == "by":
            return tree[1] < len(picks) and indexed(picks[tree[1]][0])
        if tree[0] == "along":
            return indexed(tree[1:])
        ones, order = plain_look(base, question, tree[1] if tree[0] in ("sort", "step") else tree[2])
        if tree[0] == "sort":
            return tree[2][0] in ones and (tree[2] == by or any(tree[2] in join for join in joins))
        if tree[0] == "step":
            return tree[2] < len(joins) and any(
                mine[0] in ones and its[0] not in ones and indexed(its)
                for mine, its in (joins[tree[2]], joins[tree[2]][::-1]))
        others, beside = plain_look(base, question, tree[3])
        if ones & others:
            return False
        between = [number for number, join in enumerate(joins)
                   if any(mine[0] in ones and its[0] in others for mine, its in (join, join[::-1]))]
        if tree[0] != "merge":
            return tree[0] == "loops" or bool(between)
        if tree[4] not in between or not order or not beside:
            return False
        mine, its = sorted(joins[tree[4]], key=lambda column: column[0] not in ones)
        return mine in group_with(base, question, ones, order) and its in group_with(base, question, others, beside)

    def test_thirty_operators(self):
        table = (["k", "n"], [(row % 8, row) for row in range(30)], ["k"])
        base = Base({"t": table})
        joins = [(("p", "k"), ("q", "k")), (("q", "n"), ("r", "n")), (("r", "k"), ("s", "k"))]
        question = ([(word, "t") for word in "pqrs"], joins, [], [("p", "n")], ("s", "k"))
        tree = ("along", "p", "k")
        for number, word in enumerate("qrs"):
            mine, its = joins[number]
            tree = ("merge", MODES[number], ("sort", tree, mine), ("sort", ("all", word), its), number)
        while size_of(tree) < 30:
            tree = ("sort", tree, ("s", "k"))
        self.assertEqual(size_of(tree), 30)
        self.tells(("r", "k"), tree_order, base, question, tree)
        self.tells(["p", "q", "r", "s"], tree_set, base, question, tree)
        steps, time, room = tree_amount(base, question, tree)
        self.assertEqual(room, 2 * 438)
        self.assertTrue(time < steps)

    def test_any_object(self):
        things = NO_LISTS + [
            [], (), ("all",), ("all", "c"), ("all", "a", "k"), ("all", None), ("all", ["a"]), ("All", "a"), ("every", "a"), "all", ("by", 0),
            ("by", None), ("by",), ("along", "a"), ("along", "a", "k"), ("along", "b", "n"), ("along", "b", None), ("along", "b", ("b", "k")),
            ("along", ["b"], "k"), ("sort", A), ("sort", "a", AK), ("sort", None, AK), ("sort", A, "k"), ("sort", A, None), ("sort", A, AK, 1),
            ("sort", A, ("a",)), ("sort", A, ("a", "n")), ("sort", A, (["a"], "k")), ("loops", A, B), ("loops", "left", A), ("loops", "left", A, A),
            ("loops", "Left", A, B), ("loops", None, A, B), ("loops", ["left"], A, B), ("loops", "left", A, None), ("loops", "left", (), B),
            ("loops", "left", A, B, 0), ("boxes", "up", A, B), ("boxes", "left", A, A), ("boxes", "left", A, "b"), ("merge", "left", A, B, 0),
            ("merge", "left", SORTED_A, SORTED_B), ("merge", "left", SORTED_A, SORTED_B, 1), ("merge", "left", SORTED_A, SORTED_B, -1),
            ("merge", "left", SORTED_A, SORTED_B, False), ("merge", 1, SORTED_A, SORTED_B, 0), ("merge", "left", SORTED_A, SORTED_A, 0),
            ("step", A), ("step", A, 1), ("step", B, 0), ("step", A, False), ("step", A, "0"), ("step", ("step", A, 0), 0), ("step", "a", 0),
            ("loops", "left", ("step", A, 0), B), (A,), [A], {"all": "a"}, EXAMPLE, [EXAMPLE, "a"], [["all"], "a"], (None, "a"),
        ]
        for thing in things:
            self.tells(False, is_operator_tree, INDEXED, PLAIN, thing)
            for call in (tree_set, tree_order, tree_amount):
                self.refuses(BadTree, "tree", thing, call, INDEXED, PLAIN, thing)
        for number in NO_INTEGERS:
            self.tells(False, is_operator_tree, INDEXED, PLAIN, ("step", A, number))
        # Without a join there are no boxes.
        bare = (PLAIN[0], [], [], [AK], None)
        self.tells(False, is_operator_tree, INDEXED, bare, ("boxes", "left", A, B))
        self.tells(True, is_operator_tree, INDEXED, bare, ("loops", "left", A, B))
        tree = ("merge", "left", SORTED_A, ("sort", ("along", "b", "k"), BK), 0)
        self.tells(True, is_operator_tree, INDEXED, PLAIN, swapped(tree))
        self.tells(tree_amount(INDEXED, PLAIN, tree), tree_amount, INDEXED, PLAIN, swapped(tree))

    def test_bad_questions_are_ahead(self):
        for question in NO_LISTS + [[], (), PLAIN[:4]]:
            for call in (is_operator_tree, tree_set, tree_order, tree_amount):
                self.refuses(BadQuestion, "question", question, call, PAIR, question, None)


if __name__ == "__main__":
    unittest.main()
