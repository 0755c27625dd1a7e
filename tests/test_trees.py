"""Promise 17.1: trees of numbers."""

import unittest

from anyprice.refusals import BadTree, BadValues
from anyprice.trees import is_tree, words_in, worth_of
from helpers import EXAMPLE, NO_INTEGERS, NO_LISTS, Case, chance_of, some_function, swapped
from machinery import T, num, some_number_tree, var, words_of

NO_TREES = NO_LISTS + [
    [], (), ("num",), ("num", True), ("num", None), ("num", "1"), ("num", 1, 2), ("num", (1,)), ("var",), ("var", 1), ("var", ""),
    ("var", "A"), ("var", "abcdefghi"), ("var", "a1"), ("var", "a b"), ("var", None), ("var", ["a"]), ("var", "a", "b"), ("Num", 1),
    ("add", num(1)), ("add", num(1), num(2), num(3)), ("add", 1, 2), ("div", num(1), num(2)), ("neg", num(1)), ("add", num(1), None),
    ("add", num(1), ("num", False)), ("add", num(1), ()), ("add", "num", "num"), (["num"], 1), (num(1),), [num(1), num(2)], "num", "add",
    ("add", None, num(1)), ("mul", ("num", True), T), ("sub", ("var", 1), num(1)), ("reg", "a"), ("x", "y"), ("num", "x"),
    {"num": 1}, ("add", T, ("mul", T, ("sub", T, ("var", "")))), (some_function, 1), (EXAMPLE, 1), (None, 1, 2), ("reg", 1), ("sub", "reg", "reg"),
]


def plain_worth(tree, values):
    if tree[0] == "num":
        return tree[1]
    if tree[0] == "var":
        return values[tree[1]]
    one, other = plain_worth(tree[1], values), plain_worth(tree[2], values)
    return {"add": one + other, "sub": one - other, "mul": one * other}[tree[0]]


class Trees(Case):

    def test_trees(self):
        for tree in (num(0), num(-5), num(10 ** 30), var("a"), var("abcdefgh"), var("num"), var("add"), T, ("sub", T, num(-1)), ("mul", T, T)):
            self.tells(True, is_tree, tree)
            self.tells(True, is_tree, swapped(tree))

    def test_any_object(self):
        for thing in NO_TREES:
            self.tells(False, is_tree, thing)
            self.refuses(BadTree, "tree", thing, words_in, thing)
            self.refuses(BadTree, "tree", thing, worth_of, thing, {"a": 1})
            # Two errors: the tree is the first one.
            self.refuses(BadTree, "tree", thing, worth_of, thing, None)

    def test_words(self):
        self.tells(["a", "b", "c"], words_in, T)
        self.tells([], words_in, num(3))
        self.tells(["x"], words_in, var("x"))
        self.tells(["aa", "b", "z"], words_in, ("sub", var("z"), ("add", var("b"), ("mul", var("z"), var("aa")))))

    def test_worth(self):
        self.tells(17, worth_of, T, {"a": 2, "b": 3, "c": 5})
        self.tells(-4, worth_of, ("sub", num(1), num(5)), {})
        self.tells(4, worth_of, ("sub", num(5), num(1)), {"z": None})
        self.tells(10 ** 36, worth_of, ("mul", var("x"), var("x")), {"x": 10 ** 18})
        self.tells(-1, worth_of, ("sub", ("sub", num(1), num(1)), num(1)), {})
        self.tells(1, worth_of, ("sub", num(1), ("sub", num(1), num(1))), {})

    def test_values(self):
        values = {"a": 1, "b": 2, "c": 3}
        # The very words of the tree are kept.
        for word in (T[1][1], T[2][1][1], T[2][2][1]):
            lacking = {key: worth for key, worth in values.items() if key != word}
            self.refuses(BadValues, "word", word, worth_of, T, lacking)
            for worth in NO_INTEGERS:
                self.refuses(BadValues, "word", word, worth_of, T, {**values, word: worth})
        self.refuses(BadValues, "word", T[1][1], worth_of, T, {})
        self.refuses(BadValues, "word", T[2][1][1], worth_of, T, {"a": 1, "c": True})
        first = "bb"
        self.refuses(BadValues, "word", first, worth_of, ("add", var("c"), var(first)), {"a": 1})
        for thing in [None, True, 0, "a", [], (), [("a", 1)], ["a", "b", "c"], some_function, EXAMPLE]:
            for tree in (T, num(1)):
                self.refuses(BadValues, "word", None, worth_of, tree, thing)
        # Other keys do not matter.
        self.tells(7, worth_of, T, {"c": 3, "b": 2, "a": 1, "d": None, 5: "x", None: 1})

    def test_by_chance(self):
        chance = chance_of(171)
        for _ in range(100):
            tree = some_number_tree(chance, chance.randrange(1, 16, 2))
            values = {word: chance.randint(-9, 9) for word in "abc"}
            self.tells(sorted(words_of(tree)), words_in, tree)
            self.tells(plain_worth(tree, values), worth_of, tree, values)


if __name__ == "__main__":
    unittest.main()
