"""Promise 19.1: tested questions."""

import unittest
from itertools import combinations

from anyprice.bases import Base
from anyprice.questions import answer_of, rows_of
from anyprice.refusals import BadSet, BadTested, BadTests
from anyprice.tested import is_tested, tested_answer, tested_rows
from helpers import EXAMPLE, NO_LISTS, Case, chance_of, swapped
from machinery import M, num, var
from test_questions import AK, PAIR, PICKED, PLAIN, some_base
from test_trees import NO_TREES
from wholeways import plain_tested_rows, some_tested

OVER = ("sub", var("k"), num(2))
UNDER = ("sub", num(4), var("k"))
TESTED = (PLAIN, [("a", OVER), ("b", UNDER), ("a", UNDER)])
NO_TESTED = NO_LISTS + [
    [], (), (PLAIN,), (PLAIN, [], []), (None, []), (PLAIN, None), (PLAIN, "ab"), (PLAIN, {}), (PLAIN, [None]), (PLAIN, [()]), (PLAIN, [("a",)]),
    (PLAIN, [("a", OVER, OVER)]), (PLAIN, ["aa"]), (PLAIN, [("c", OVER)]), (PLAIN, [(None, OVER)]), (PLAIN, [(["a"], OVER)]), (PLAIN, [("A", OVER)]),
    (PLAIN, [("a", var("n"))]), (PLAIN, [("a", ("add", OVER, var("x")))]), (PLAIN, [("a", OVER), ("a", None)]), (PLAIN[:4], []), ([], []),
    (PLAIN, [("a", OVER), ("b", var("a"))]), (PLAIN, ("a", OVER)), PLAIN, (PLAIN, [(True, OVER)]),
] + [(PLAIN, [("a", thing)]) for thing in NO_TREES]


class Tested(Case):

    def test_tested_questions(self):
        for thing in (TESTED, (PLAIN, []), (PICKED, [("b", num(1))] * 3), (PLAIN, [("a", ("mul", OVER, UNDER))])):
            self.tells(True, is_tested, PAIR, thing)
            self.tells(True, is_tested, PAIR, swapped(thing))
            self.tells(False, is_tested, Base({}), thing)
        base = Base({"a": (["k", "n"], [], []), "b": (["n"], [], [])})
        question = ([("a", "a"), ("b", "b")], [], [], [AK], None)
        self.tells(True, is_tested, base, (question, [("a", OVER), ("b", var("n"))]))
        self.tells(False, is_tested, base, (question, [("a", OVER), ("b", OVER)]))

    def test_any_object(self):
        for thing in NO_TESTED:
            self.tells(False, is_tested, PAIR, thing)
            self.refuses(BadTested, "tested", thing, tested_rows, PAIR, thing, None, None)
            self.refuses(BadTested, "tested", thing, tested_answer, PAIR, thing)

    def test_rows(self):
        for words, numbers, expected in (
            (["a"], [], [((1,),), ((2,),), ((3,),), ((4,),)]), (["a"], [0], [((3,),), ((4,),)]), (["a"], [0, 2], [((3,),)]), (["b"], [1], [((1,),), ((2,),), ((3,),)]),
            (["b", "a"], [0, 1, 2], [((3,), (3,))]), (["a", "b"], [], [((1,), (1,)), ((2,), (2,)), ((3,), (3,)), ((4,), (4,))]), (["a", "b"], [2], [((1,), (1,)), ((2,), (2,)), ((3,), (3,))]),
        ):
            self.tells(expected, tested_rows, PAIR, TESTED, words, numbers)
        self.tells([(3,)], tested_answer, PAIR, TESTED)
        self.tells([], tested_answer, PAIR, (PLAIN, [("a", num(0))]))
        self.tells([], tested_answer, PAIR, (PLAIN, [("a", num(-1)), ("b", num(1))]))
        self.tells(answer_of(PAIR, PLAIN), tested_answer, PAIR, (PLAIN, []))
        self.tells(answer_of(PAIR, PLAIN), tested_answer, PAIR, (PLAIN, [("a", num(1))]))

    def test_tests_of_columns_in_joins_and_several_of_one_source(self):
        base = Base({"t": (["k", "n"], [(1, 5), (2, 3), (2, 7), (3, 3), (0, 0)], [])})
        question = ([("p", "t"), ("q", "t")], [(("p", "k"), ("q", "k"))], [], [("p", "n"), ("q", "n")], None)
        tests = [("p", var("k")), ("p", ("sub", var("n"), var("k"))), ("q", ("sub", var("n"), num(4)))]
        self.tells([(3, 7), (5, 5), (7, 7)], tested_answer, base, (question, tests))
        self.tells([((1, 5),), ((2, 3),), ((2, 7),)], tested_rows, base, (question, tests), ["p"], [0, 1])

    def test_by_chance(self):
        chance = chance_of(191)
        some = 0
        for _ in range(80):
            base = some_base(chance, 6)
            tested = some_tested(chance, base, chance.randint(1, 3), chance.randint(0, 3))
            self.tells(True, is_tested, base, tested)
            words = [word for word, _ in tested[0][0]]
            for many in range(1, len(words) + 1):
                for part in combinations(words, many):
                    fitting = [number for number, (word, _) in enumerate(tested[1]) if word in part]
                    numbers = [number for number in fitting if chance.random() < .6]
                    expected = plain_tested_rows(base, tested, part, numbers)
                    some += 0 < len(expected) < len(rows_of(base, tested[0], part))
                    self.tells(expected, tested_rows, base, tested, list(part), numbers)
            columns = base.all_tables()
            rows = plain_tested_rows(base, tested, words, range(len(tested[1])))
            names = dict(tested[0][0])
            answer = sorted(tuple(row[words.index(word)][columns[names[word]][0].index(column)] for word, column in tested[0][3]) for row in rows)
            self.tells(answer, tested_answer, base, tested)
        self.assertGreater(some, 20)

    def test_errors_in_their_order(self):
        for words in NO_LISTS + [[], ["a", "a"], ["c"], ["a", None], "a", ["A"], [["a"]], [EXAMPLE]]:
            self.refuses(BadSet, "words", words, tested_rows, PAIR, TESTED, words, [0])
            self.refuses(BadSet, "words", words, tested_rows, PAIR, TESTED, words, None)
        for numbers in NO_LISTS + [[3], [-1], [0, 0], [2, 0], [1], [0, 1], [True], [0, True], [None], ["0"], [[0]], [0, 2, 2], (0, 10 ** 20), [M]]:
            if numbers != []:
                self.refuses(BadTests, "numbers", numbers, tested_rows, PAIR, TESTED, ["a"], numbers)
        self.refuses(BadTests, "numbers", None, tested_rows, PAIR, (PLAIN, []), ["a"], None)
        numbers = [0]
        self.refuses(BadTests, "numbers", numbers, tested_rows, PAIR, (PLAIN, []), ["a"], numbers)


if __name__ == "__main__":
    unittest.main()
