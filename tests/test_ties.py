"""Promises 15.4 and 15.5, and 15.6 as far as it tells of them: ties, and closed questions."""

import unittest
from itertools import combinations

from anyprice.bases import Base
from anyprice.questions import answer_of, is_question, rows_of
from anyprice.refusals import BadQuestion, BadSet
from anyprice.ties import closed_question, tied_columns
from helpers import EXAMPLE, NO_LISTS, Case, chance_of, swapped
from test_questions import AK, BK, PAIR, PICKED, columns_of, some_base, some_question

THREE = Base({"t": (["k", "n"], [(1, 1), (1, 2), (2, 1), (2, 2)], ["k"])})
PK, PN, QK, QN, RK, RN = [(word, column) for word in "pqr" for column in "kn"]
SOURCES = [("p", "t"), ("q", "t"), ("r", "t")]


def plain_tied(base, question, words):
    columns = columns_of(base, question[0], words)
    groups = {column: {column} for column in columns}
    for _ in columns:
        for one, other in question[1]:
            one, other = tuple(one), tuple(other)
            if one in groups and other in groups:
                both = groups[one] | groups[other]
                for column in both:
                    groups[column] = groups[column] | both
    found = []
    for column in columns:
        group = [other for other in columns if other in groups[column]]
        if len(group) > 1 and group not in found:
            found.append(group)
    return found


def plain_closed(base, question):
    sources, joins, picks, shown, by = question
    words = [word for word, _ in sources]
    columns = columns_of(base, sources)
    tied = {column: [column] for column in columns}
    for group in plain_tied(base, question, words):
        tied.update({column: group for column in group})
    further = [(one, other) for one, other in combinations(columns, 2)
               if one[0] != other[0] and other in tied[one] and (one, other) not in joins and (other, one) not in joins]
    more = [(column, number) for column in columns
            for number in sorted({number for other, number in picks if other in tied[column]})
            if (column, number) not in picks]
    return (list(sources), list(joins) + further, list(picks) + more, list(shown), by)


class Tied(Case):

    def test_the_example(self):
        self.tells([[AK, BK]], tied_columns, PAIR, PICKED, ["a", "b"])
        self.tells([], tied_columns, PAIR, PICKED, ["a"])
        self.tells([], tied_columns, PAIR, PICKED, ["b"])

    def test_within_the_set_alone(self):
        question = (SOURCES, [(PK, QN), (RK, QN), (RN, PK)], [], [PK], None)
        self.tells([[PK, QN, RK, RN]], tied_columns, THREE, question, ["r", "q", "p"])
        self.tells([[PK, QN]], tied_columns, THREE, question, ["p", "q"])
        self.tells([[QN, RK]], tied_columns, THREE, question, ["r", "q"])
        self.tells([[PK, RN]], tied_columns, THREE, question, ["p", "r"])

    def test_the_order_is_that_of_the_columns(self):
        question = (SOURCES[::-1], [(PN, QK), (QN, RK), (PK, RN)], [], [PK], None)
        self.tells([[RK, QN], [RN, PK], [QK, PN]], tied_columns, THREE, question, list("pqr"))

    def test_two_columns_of_one_source(self):
        question = (SOURCES, [(PK, QK), (QK, PN)], [], [PK], None)
        self.tells([[PK, PN, QK]], tied_columns, THREE, question, ["p", "q", "r"])

    def test_by_chance(self):
        chance = chance_of(154)
        long = 0
        for _ in range(150):
            base = some_base(chance, 4)
            question = some_question(chance, base)
            words = [word for word, _ in question[0]]
            for many in range(1, len(words) + 1):
                for part in combinations(words, many):
                    expected = plain_tied(base, question, part)
                    self.tells(expected, tied_columns, base, question, list(part))
                    long = max([long] + [len(group) for group in expected])
                    self.check_rows(base, question, list(part), expected)
        self.assertGreater(long, 3)

    def check_rows(self, base, question, words, groups):
        tables = base.all_tables()
        names = dict(question[0])
        inner = [word for word, _ in question[0] if word in words]
        for row in rows_of(base, question, words):
            for group in groups:
                self.assertEqual(len({row[inner.index(word)][tables[names[word]][0].index(column)] for word, column in group}), 1)

    def test_errors(self):
        for question in NO_LISTS + [[], (), PICKED[:4]]:
            self.refuses(BadQuestion, "question", question, tied_columns, PAIR, question, None)
        for words in NO_LISTS + [[], (), ["a", "a"], ["c"], ["a", None], [["a"]], "ab", [EXAMPLE]]:
            self.refuses(BadSet, "words", words, tied_columns, PAIR, PICKED, words)


class Closed(Case):

    def check(self, base, question):
        expected = plain_closed(base, question)
        told = self.told(closed_question, base, question)
        self.assertEqual(told, expected)
        self.assertEqual([type(inner) for inner in told], [list] * 4 + [type(told[4])])
        for inner in told[:4]:
            self.assertTrue(all(type(thing) is tuple for thing in inner))
        self.assertTrue(is_question(base, told))
        self.tells(told, closed_question, base, told)
        self.assertEqual(answer_of(base, told), answer_of(base, question))
        words = [word for word, _ in question[0]]
        for many in range(1, len(words) + 1):
            for part in combinations(words, many):
                self.assertLessEqual(len(rows_of(base, told, part)), len(rows_of(base, question, part)))
        return told

    def test_the_example(self):
        told = self.check(PAIR, PICKED)
        self.assertEqual(told, ([("a", "a"), ("b", "b")], [(AK, BK)], [(AK, 2), (BK, 2)], [AK], None))
        self.assertEqual(rows_of(PAIR, told, ["b"]), [((2,),)])

    def test_chains_and_rings(self):
        chain = (SOURCES, [(RK, QK), (QK, PN)], [(QK, 2), (RK, 1), (PK, 1)], [PK, RN], RK)
        self.assertEqual(self.check(THREE, chain), (
            SOURCES, [(RK, QK), (QK, PN), (PN, RK)], [(QK, 2), (RK, 1), (PK, 1), (PN, 1), (PN, 2), (QK, 1), (RK, 2)], [PK, RN], RK))
        ring = (SOURCES, [(PK, QK), (QK, RK), (RK, PK)], [], [PK], None)
        self.assertEqual(self.check(THREE, ring), ring)

    def test_one_source(self):
        question = ([("p", "t")], [], [(PK, 1), (PN, 3), (PK, 0)], [PK], PN)
        self.assertEqual(self.check(THREE, question), question)

    def test_columns_of_one_source(self):
        # They are no join; the pick is handed on.
        question = (SOURCES[:2], [(PK, QK), (QK, PN)], [(PN, 2)], [PK], None)
        self.assertEqual(self.check(THREE, question), (SOURCES[:2], [(PK, QK), (QK, PN)], [(PN, 2), (PK, 2), (QK, 2)], [PK], None))

    def test_told_kinds(self):
        self.tells(([("a", "a"), ("b", "b")], [(AK, BK)], [(AK, 2), (BK, 2)], [AK], BK), closed_question, PAIR,
                   swapped(PICKED[:4]) + [list(BK)])

    def test_by_chance(self):
        chance = chance_of(155)
        more = [0, 0]
        for _ in range(200):
            base = some_base(chance, 4)
            question = some_question(chance, base)
            told = self.check(base, question)
            more[0] += len(told[1]) > len(question[1])
            more[1] += len(told[2]) > len(question[2])
        self.assertGreater(min(more), 30)

    def test_errors(self):
        for question in NO_LISTS + [[], (), PICKED[:4]]:
            self.refuses(BadQuestion, "question", question, closed_question, PAIR, question)


if __name__ == "__main__":
    unittest.main()
