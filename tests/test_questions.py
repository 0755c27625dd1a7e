"""Promises 15.2 and 15.3, and 15.6 as far as it tells of them: questions, rows of sets, answers."""

import unittest
from itertools import combinations, permutations, product as all_of

from anyprice.bases import Base
from anyprice.questions import answer_of, is_question, rows_of
from anyprice.refusals import BadQuestion, BadSet
from helpers import EXAMPLE, NO_INTEGERS, NO_LISTS, Case, chance_of, swapped

FOUR = (["k"], [(1,), (2,), (3,), (4,)], [])
PAIR = Base({"a": FOUR, "b": FOUR})
AK, BK = ("a", "k"), ("b", "k")
# The question of the document's example 15.6, and that of 16.7.
PICKED = ([("a", "a"), ("b", "b")], [(AK, BK)], [(AK, 2)], [AK], None)
PLAIN = ([("a", "a"), ("b", "b")], [(AK, BK)], [], [AK], None)
WORDS = ["p", "q", "r", "s"]


def some_base(chance, most=6, indexed=.5):
    """Tables of few integers, so that much is equal; rows come twice now and then, or not at all."""
    tables = {}
    for name in ("t", "u", "v"):
        columns = ["k", "m", "n"][:chance.randint(1, 3)]
        rows = [tuple(chance.randint(0, 2) for _ in columns) for _ in range(chance.randint(0, most))]
        tables[name] = (columns, rows, [column for column in columns if chance.random() < indexed])
    return Base(tables)


def columns_of(base, sources, words=None):
    tables = base.all_tables()
    return [(word, column) for word, name in sources if words is None or word in words for column in tables[name][0]]


def some_question(chance, base, many=None):
    sources = [(word, chance.choice("tuv")) for word in chance.sample(WORDS, many or chance.randint(1, 4))]
    columns = columns_of(base, sources)
    joins = [pair for pair in permutations(columns, 2) if pair[0][0] != pair[1][0]]
    chosen = []
    for join in chance.sample(joins, min(len(joins), chance.randint(0, 5))):
        if join not in chosen and join[::-1] not in chosen:
            chosen.append(join)
    picks = [(column, chance.randint(0, 3)) for column in columns]
    picks = list(dict.fromkeys(chance.sample(picks, min(len(picks), chance.choice([0, 1, 1, 2, 3])))))
    shown = [chance.choice(columns) for _ in range(chance.randint(1, 3))]
    return (sources, chosen, picks, shown, chance.choice([None] + columns))


def plain_rows(base, question, words):
    """All tuples of rows of the tables, each looked at."""
    sources, joins, picks, _, _ = question
    tables = base.all_tables()
    inner = [(word, tables[name]) for word, name in sources if word in words]
    found = []
    for rows in all_of(*[table[1] for _, table in inner]):
        worths = {(word, column): number for (word, table), row in zip(inner, rows) for column, number in zip(table[0], row)}
        fine = all(worths[tuple(column)] == number for column, number in picks if tuple(column) in worths)
        fine = fine and all(worths[tuple(one)] == worths[tuple(other)] for one, other in joins
                            if tuple(one) in worths and tuple(other) in worths)
        if fine:
            found.append(rows)
    return found


def plain_answer(base, question):
    sources, _, _, shown, _ = question
    tables = base.all_tables()
    words = [word for word, _ in sources]
    found = []
    for rows in plain_rows(base, question, words):
        found.append(tuple(rows[words.index(word)][tables[dict(sources)[word]][0].index(column)] for word, column in shown))
    return sorted(found)


class Questions(Case):

    def test_the_example(self):
        for question in (PICKED, PLAIN):
            self.tells(True, is_question, PAIR, question)

    def test_questions(self):
        sources = [("a", "a"), ("b", "a"), ("c", "b")]
        ck = ("c", "k")
        for question in (
            (sources, [], [], [AK], None),
            (sources, [(AK, BK), (BK, ck), (ck, AK)], [(AK, 2), (AK, 3), (BK, 2)], [AK, AK, ck], BK),
            ([("abcdefgh", "a")], [], [], [("abcdefgh", "k")], ("abcdefgh", "k")),
            (sources, [], [(AK, -5), (AK, 10 ** 18)], [BK], AK),
        ):
            self.tells(True, is_question, PAIR, question)
            self.tells(True, is_question, PAIR, swapped(question))
            self.tells(False, is_question, Base({}), question)

    def test_any_object(self):
        sources, joins, picks, shown, by = PICKED
        things = NO_LISTS + [[], (), PICKED[:4], PICKED + (None,), "abcde", [None] * 5, {0: 1}]
        for bad in NO_LISTS + [[], (), [("a", "a"), ("a", "b")], [("a", "a"), ("b", "c")], [("a", "a"), ("b",)], [("A", "a"), ("b", "b")],
                               [("a", "a", "a"), ("b", "b")], ["aa", "bb"], [("a", "a"), None], [("a", "a"), (1, "b")],
                               [("a", "a"), ("b", 1)], [("a", "a"), ("b", ["b"])], [("a", "a"), (["b"], "b")], [("a", "a")],
                               [("a", "a"), ("abcdefghi", "b")], {"a": "a", "b": "b"}, [("a", "a"), ("", "b")],
                               [("a", "b"), ("a", "b")], [("a", "a"), ["a", "a"]], [("a", "b"), ("b", "b"), ("a", "b")]]:
            things.append((bad, joins, picks, shown, by))
            if bad != [("a", "a")]:
                things.append((bad, [], [], [AK], None))
        bad_columns = NO_LISTS + [[], (), ("a",), ("a", "k", "k"), ("c", "k"), ("a", "n"), ("k", "a"), ("a", None), (None, "k"),
                                  ("a", ["k"]), (["a"], "k"), "ak", ("a", 1), (True, "k")]
        for bad in bad_columns:
            things += [(sources, [(bad, BK)], picks, shown, by), (sources, [(BK, bad)], picks, shown, by),
                       (sources, joins, [(bad, 2)], shown, by), (sources, joins, picks, [AK, bad], by)]
            if bad is not None:
                things.append((sources, joins, picks, shown, bad))
        for bad in NO_LISTS + [[()], [(AK,)], [(AK, BK, AK)], [(AK, AK)], [AK], [(AK, BK), (AK, BK)], [(AK, BK), (BK, AK)],
                               [(AK, BK), [list(BK), list(AK)]], {AK: BK}, [{}], ["ab"]]:
            things.append((sources, bad, picks, shown, by))
        for bad in NO_LISTS + [[()], [(AK,)], [(AK, 1, 1)], [AK], [(AK, 2), (AK, 2)], [(AK, 2), [list(AK), 2]], {AK: 2}, ["ab"]]:
            things.append((sources, joins, bad, shown, by))
        for number in NO_INTEGERS:
            things.append((sources, joins, [(AK, number)], shown, by))
        for bad in NO_LISTS + [[], ()]:
            things.append((sources, joins, picks, bad, by))
        for thing in things:
            self.tells(False, is_question, PAIR, thing)
            for ask in (lambda: rows_of(PAIR, thing, None), lambda: answer_of(PAIR, thing)):
                with self.assertRaises(BadQuestion) as caught:
                    ask()
                self.assertIs(caught.exception.question, thing)

    def test_a_join_within_a_source(self):
        base = Base({"a": (["k", "n"], [], [])})
        self.tells(False, is_question, base, ([("a", "a")], [(("a", "k"), ("a", "n"))], [], [("a", "k")], None))
        # Two sources of one table are unlike.
        self.tells(True, is_question, base, ([("a", "a"), ("b", "a")], [(("a", "k"), ("b", "k"))], [], [("a", "k")], None))

    def test_by_chance(self):
        chance = chance_of(152)
        for _ in range(100):
            base = some_base(chance)
            self.tells(True, is_question, base, some_question(chance, base))


class Rows(Case):

    def test_the_example(self):
        self.tells([((2,),)], rows_of, PAIR, PICKED, ["a"])
        self.tells([((1,),), ((2,),), ((3,),), ((4,),)], rows_of, PAIR, PICKED, ["b"])
        self.tells([((2,), (2,))], rows_of, PAIR, PICKED, ["a", "b"])
        self.tells([(2,)], answer_of, PAIR, PICKED)

    def test_the_order_of_words_does_not_matter(self):
        base = Base({"a": (["k"], [(3,), (1,)], []), "b": (["k"], [(4,), (2,)], [])})
        question = ([("b", "b"), ("a", "a")], [], [], [("a", "k"), ("b", "k")], None)
        expected = [((4,), (3,)), ((4,), (1,)), ((2,), (3,)), ((2,), (1,))]
        for words in (["a", "b"], ["b", "a"]):
            self.tells(expected, rows_of, base, question, words)
        self.tells([(1, 2), (1, 4), (3, 2), (3, 4)], answer_of, base, question)

    def test_rows_that_come_twice(self):
        base = Base({"a": (["k", "n"], [(1, 5), (1, 5), (1, 6)], [])})
        question = ([("x", "a"), ("y", "a")], [(("x", "n"), ("y", "n"))], [], [("x", "k"), ("x", "k")], None)
        self.tells([(1, 1)] * 5, answer_of, base, question)
        self.assertEqual(len(rows_of(base, question, ["x", "y"])), 5)

    def test_no_rows(self):
        base = Base({"a": (["k"], [], []), "b": FOUR})
        question = ([("b", "b"), ("a", "a")], [], [], [AK], None)
        for words, many in ((["a"], 0), (["b"], 4), (["a", "b"], 0)):
            self.assertEqual(len(rows_of(base, question, words)), many)
        self.tells([], answer_of, base, question)

    def test_unlike_picks(self):
        for picks, expected in (([(AK, 2), (AK, 3)], []), ([(AK, 9)], []), ([(AK, 2), (BK, 3)], []), ([(AK, 2), (BK, 2)], [(2,)])):
            question = (PLAIN[0], PLAIN[1], picks, [AK], None)
            self.tells(expected, answer_of, PAIR, question)

    def test_rings_and_several_joins(self):
        base = Base({"t": (["k", "n"], [(1, 1), (1, 2), (2, 1), (2, 2)], [])})
        pk, pn, qk, qn, rk, rn = [(word, column) for word in "pqr" for column in "kn"]
        sources = [("p", "t"), ("q", "t"), ("r", "t")]
        for joins in ([(pk, qk), (qn, rn), (rk, pn)], [(pk, qk), (pn, qn)], [(qk, pk), (pk, qn), (rk, pk)]):
            question = (sources, joins, [], [pk, rn], None)
            for many in (1, 2, 3):
                for words in permutations("pqr", many):
                    self.tells(plain_rows(base, question, words), rows_of, base, question, list(words))
            self.tells(plain_answer(base, question), answer_of, base, question)

    def test_by_chance(self):
        chance = chance_of(153)
        several = 0
        for _ in range(150):
            base = some_base(chance, 5)
            question = some_question(chance, base)
            words = [word for word, _ in question[0]]
            for many in range(1, len(words) + 1):
                for part in combinations(words, many):
                    expected = plain_rows(base, question, part)
                    several += len(expected) > 1
                    self.tells(expected, rows_of, base, question, chance.sample(part, many))
            self.tells(plain_answer(base, question), answer_of, base, question)
        self.assertGreater(several, 200)

    def test_thirty_rows_and_four_sources(self):
        table = (["k", "n"], [(row % 8, row) for row in range(30)], ["k"])
        base = Base({"t": table})
        sources = [(word, "t") for word in "pqrs"]
        joins = [(("p", "k"), ("q", "k")), (("q", "n"), ("r", "n")), (("r", "k"), ("s", "k"))]
        question = (sources, joins, [(("s", "n"), 9)], [("p", "n"), ("s", "n")], None)
        self.assertEqual(len(rows_of(base, question, list("pqrs"))), 16)
        wide = (sources, joins, [], [("p", "n"), ("s", "n")], None)
        rows = rows_of(base, wide, list("pqrs"))
        self.assertEqual(len(rows), 6 * 4 ** 3 + 2 * 3 ** 3)
        self.assertEqual(len(rows), len(answer_of(base, wide)))
        places = [[row[1] for row in four] for four in rows]
        self.assertEqual(places, sorted(places))

    def test_errors(self):
        for words in NO_LISTS + [[], (), ["a", "a"], ["c"], ["a", "c"], ["a", None], [None], ["a", "b", "a"], [["a"]], [1], [True],
                                 ["A"], [("a",)], [EXAMPLE], "a", "ab"]:
            self.refuses(BadSet, "words", words, rows_of, PAIR, PICKED, words)


if __name__ == "__main__":
    unittest.main()
