"""Promise 15.1: bases."""

import unittest

from anyprice.bases import Base
from anyprice.errors import BadNumber
from anyprice.refusals import BadRow, BadTable, NoTable
from helpers import EXAMPLE, NO_INTEGERS, NO_LISTS, Case, spoil, swapped

TABLES = {"b": (["k"], [(1,), (2,), (1,), (-3,)], []), "a": (["n", "k"], [(1, 2), (0, 10 ** 6)], ["k", "n"]), "c": (["x"], [], ["x"])}
BASE = Base(TABLES)
NO_WORDS = [
    None, True, 0, 1, ("a",), (), "", "A", "aB", "a1", "a b", "abcdefghi", "\u00e4", "a.", "a\n"]
GOOD = (["k", "n"], [(1, 2)], ["n"])
NO_TABLES = NO_LISTS + [
    [], (), GOOD[:2], GOOD + ([],), "abc", EXAMPLE, {"a": GOOD},
    ([], [], []), (None, [], []), ("ab", [], []), (["k", "k"], [], []), (["K"], [], []), ([1], [], []), ([None], [], []), ([["k"]], [], []),
    (["abcdefghi"], [], []), ([""], [], []), ({"k": 1}, [], []),
    (["k"], None, []), (["k"], "ab", []), (["k"], {}, []), (["k"], [1], []), (["k"], [()], []), (["k"], [(1, 2)], []), (["k"], [("1",)], []),
    (["k"], [(True,)], []), (["k"], [(None,)], []), (["k"], [((1,),)], []), (["k"], [(1,), "a"], []), (["k"], [(1,), {}], []),
    (["k"], [], None), (["k"], [], "k"), (["k"], [], ["n"]), (["k"], [], ["k", "k"]), (["k"], [], [1]), (["k"], [], [["k"]]), (["k"], [], {}),
]


class Bases(Case):

    def test_what_is_kept(self):
        expected = {"a": (("n", "k"), ((1, 2), (0, 10 ** 6)), ("n", "k")), "b": (("k",), ((1,), (2,), (1,), (-3,)), ()),
                    "c": (("x",), (), ("x",))}
        for base in (BASE, Base(swapped(TABLES)), Base(tables=TABLES)):
            self.tells(expected, base.all_tables)
        self.tells({}, Base({}).all_tables)

    def test_equal_if_all_tables_are(self):
        self.assertTrue(BASE == Base({name: swapped(TABLES[name]) for name in "cba"}))
        turned = {"a": (["n", "k"], [(0, 10 ** 6), (1, 2)], ["n", "k"])}
        for tables in ({}, {name: TABLES[name] for name in "ab"}, {**TABLES, **turned}, {**TABLES, "c": (["x"], [], [])},
                       {**TABLES, "d": (["x"], [], [])}, {**TABLES, "c": (["y"], [], ["y"])}):
            self.assertFalse(BASE == Base(tables))
            self.assertTrue(BASE != Base(tables))
        self.assertTrue(BASE == Base({**TABLES, "a": (["n", "k"], [(1, 2), (0, 10 ** 6)], ["n", "k"])}))
        for thing in NO_LISTS + [[], TABLES]:
            self.assertFalse(BASE == thing)

    def test_with_row(self):
        self.tells(Base({**TABLES, "b": (["k"], [(1,), (2,), (1,), (-3,), (2,)], [])}), BASE.with_row, "b", (2,))
        self.tells(Base({**TABLES, "c": (["x"], [(7,)], ["x"])}), BASE.with_row, "c", [7])
        self.tells(Base({**TABLES, "a": (["n", "k"], [(1, 2), (0, 10 ** 6), (1, 2)], ["n", "k"])}), BASE.with_row, "a", (1, 2))

    def test_without_row(self):
        self.tells(Base({**TABLES, "b": (["k"], [(1,), (1,), (-3,)], [])}), BASE.without_row, "b", 1)
        self.tells(Base({**TABLES, "b": (["k"], [(2,), (1,), (-3,)], [])}), BASE.without_row, "b", 0)
        self.tells(Base({**TABLES, "b": (["k"], [(1,), (2,), (1,)], [])}), BASE.without_row, "b", 3)

    def test_what_is_passed_may_change_later(self):
        columns, rows, indexed = ["k", "n"], [[1, 2]], ["n"]
        tables = {"a": [columns, rows, indexed]}
        base = Base(tables)
        row = [3, 4]
        further = base.with_row("a", row)
        columns[0] = "z"
        rows[0][0] = 9
        rows.append([5, 5])
        indexed.clear()
        row[0] = 9
        tables["b"] = 3
        self.assertTrue(base == Base({"a": (["k", "n"], [(1, 2)], ["n"])}))
        self.assertTrue(further == Base({"a": (["k", "n"], [(1, 2), (3, 4)], ["n"])}))
        spoil(base.all_tables())
        self.assertTrue(base == Base({"a": (["k", "n"], [(1, 2)], ["n"])}))

    def test_no_tables(self):
        for thing in NO_LISTS + [[], ()]:
            if not isinstance(thing, dict):
                self.refuses(BadTable, "thing", thing, Base, thing)
        for name in NO_WORDS:
            self.refuses(BadTable, "thing", name, Base, {"a": GOOD, name: GOOD, "b": None})
        for bad in NO_TABLES:
            self.refuses(BadTable, "thing", "z", Base, {"b": GOOD, "z": bad, "a": bad})
            self.refuses(BadTable, "thing", "z", Base, {"z": bad, None: bad})

    def test_errors(self):
        for name in NO_LISTS + NO_WORDS + [[], ["a"], "d", "table"]:
            if name != "a":
                self.refuses(NoTable, "name", name, BASE.with_row, name, None)
                self.refuses(NoTable, "name", name, BASE.without_row, name, None)
        for row in NO_LISTS + [[], (), (1,), (1, 2, 3), (1, True), (None, 2), ("1", "2"), [[1], [2]], "12"]:
            self.refuses(BadRow, "row", row, BASE.with_row, "a", row)
        for number in NO_INTEGERS + [-1, 2, 10 ** 20]:
            self.refuses(BadNumber, "number", number, BASE.without_row, "a", number)
        self.refuses(BadNumber, "number", 0, BASE.without_row, "c", 0)


if __name__ == "__main__":
    unittest.main()
