"""Promises 20.1 and 20.3: texts of bases and of tested questions."""

import unittest

from anyprice.bases import Base
from anyprice.basetexts import read_base, read_tested, write_base, write_tested
from anyprice.questions import is_question
from anyprice.refusals import BadTested, BadText
from anyprice.tested import is_tested, tested_answer
from helpers import EXAMPLE, NO_LISTS, Case, chance_of, swapped
from machinery import num, some_number_tree, var
from test_questions import AK, BK, PAIR, PICKED, PLAIN, some_base, some_question
from test_tested import NO_TESTED
from textways import line_of, spoilt_texts, wrong_line
from wholeways import some_tested

TWO = Base({"b": (["k", "n"], [(1, -5), (1, -5), (0, 10 ** 18 - 1)], ["n", "k"]), "a": (["z"], [], [])})
TEXT = """table a
columns z
indexed
table b
columns k n
indexed k n
row 1 -5
row 1 -5
row 0 999999999999999999
"""
TESTED = (PICKED, [("a", ("sub", var("k"), num(3))), ("b", num(-4)), ("a", var("k"))])
TESTED_TEXT = """from a a
from b b
join a.k b.k
pick a.k 2
test a sub var k num 3
test b num -4
test a var k
show a.k
"""


def plain_base(lines):
    try:
        tables, name = {}, None
        for line in lines:
            words = line.split()
            if words[0] == "table":
                name = words[1]
                tables[name] = [[], [], []]
            else:
                place = ("columns", "row", "indexed").index(words[0])
                tables[name][place] += [[int(number) for number in words[1:]]] if place == 1 else words[1:]
        return Base({name: tuple(table) for name, table in tables.items()})
    except (ValueError, IndexError, KeyError):
        return None


def is_base_text(lines):
    base = plain_base(lines)
    return base is not None and write_base(base) == "".join(line + "\n" for line in lines)


def begins_base(lines):
    return any(is_base_text(lines + more) for more in ([], ["indexed"], ["columns a", "indexed"]))


def plain_tree(words):
    word = words.pop(0)
    if word in ("num", "var"):
        inner = words.pop(0)
        return (word, int(inner) if word == "num" else inner)
    return (word, plain_tree(words), plain_tree(words))


def plain_tested(lines):
    sources, joins, picks, shown, by, tests = [], [], [], [], None, []
    try:
        for line in lines:
            word, *told = line.split()
            columns = [tuple(column.split(".")) for column in told]
            if word == "from":
                sources.append(tuple(told))
            elif word == "join":
                joins.append(tuple(columns))
            elif word == "pick":
                picks.append((columns[0], int(told[1])))
            elif word == "test":
                words = told[1:]
                tests.append((told[0], plain_tree(words)))
                if words:
                    return None
            elif word == "show":
                shown += columns
            elif word == "by":
                by = columns[0]
            else:
                return None
    except (ValueError, IndexError):
        return None
    return (sources, joins, picks, shown, by), tests


def is_tested_text(base, lines):
    tested = plain_tested(lines)
    if tested is None or not is_tested(base, tested):
        return False
    return write_tested(base, tested) == "".join(line + "\n" for line in lines)


def begins_tested(base, lines):
    if is_tested_text(base, lines):
        return True
    found = [line.split() for line in lines if line.startswith("from ")]
    tables = base.all_tables()
    return any(is_tested_text(base, lines + [f"show {words[1]}.{tables[words[2]][0][0]}"])
               for words in found[:1] if len(words) == 3 and words[2] in tables)


class BaseTexts(Case):

    def test_the_example(self):
        self.tells(TEXT, write_base, TWO)
        self.assertTrue(self.told(read_base, TEXT) == TWO)
        self.tells("", write_base, Base({}))
        self.assertTrue(read_base("") == Base({}))
        self.tells("table a\ncolumns k\nindexed\nrow 1\nrow 2\nrow 3\nrow 4\ntable b\ncolumns k\nindexed\nrow 1\nrow 2\nrow 3\nrow 4\n", write_base, PAIR)

    def test_wrong_lines(self):
        for text, line in (
            ("\n", 1), ("table a", 1), ("table a\n", 2), ("table a\ncolumns k\n", 3), ("table a\ncolumns k", 2), ("columns k\n", 1), ("row 1\n", 1), ("indexed\n", 1),
            ("table A\n", 1), ("table a b\n", 1), ("table\n", 1), ("table \n", 1), ("table  a\n", 1), ("table a\ntable b\n", 2), ("table a\nindexed\n", 2),
            ("table a\ncolumns\n", 2), ("table a\ncolumns k k\n", 2), ("table a\ncolumns K\n", 2), ("table a\ncolumns k\nrow 1\n", 3),
            ("table a\ncolumns k\nindexed n\n", 3), ("table a\ncolumns k\nindexed k k\n", 3), ("table a\ncolumns k n\nindexed n k\n", 3),
            ("table a\ncolumns k\nindexed\nrow\n", 4), ("table a\ncolumns k\nindexed\nrow 1 2\n", 4), ("table a\ncolumns k\nindexed\nrow 01\n", 4),
            ("table a\ncolumns k\nindexed\nrow -0\n", 4), ("table a\ncolumns k\nindexed\nrow 1.0\n", 4), ("table a\ncolumns k\nindexed\nrow  1\n", 4),
            ("table a\ncolumns k\nindexed\nrow 1", 4), ("table a\ncolumns k\nindexed\nindexed\n", 4), ("table a\ncolumns k\nindexed\ncolumns k\n", 4),
            ("table a\ncolumns k\nindexed\ntable a\n", 4), ("table b\ncolumns k\nindexed\ntable a\n", 4), ("table b\ncolumns k\nindexed\ntable c\n", 5),
            ("table a\ncolumns k\nindexed \n", 3), (TEXT + "\n", 10), (TEXT + "x", 10), (TEXT[:-1], 9),
        ):
            self.refuses(BadText, "line", line, read_base, text)
        for thing in NO_LISTS + [[], [TEXT], (TEXT,), EXAMPLE]:
            if not isinstance(thing, str):
                self.refuses(BadText, "line", 0, read_base, thing)
                self.refuses(BadText, "line", 0, read_tested, PAIR, thing)

    def test_by_chance(self):
        chance = chance_of(203)
        told = {}
        for _ in range(60):
            base = some_base(chance, 4)
            text = self.told(write_base, base)
            self.assertTrue(self.told(read_base, text) == base)
            for spoilt in spoilt_texts(chance, text, 15, ["table a", "table zz", "columns k", "indexed", "indexed k", "row 1", "row 1 2", ""]):
                line = wrong_line(spoilt, begins_base, is_base_text)
                self.assertEqual(line_of(lambda: read_base(spoilt)), line, spoilt)
                told[line] = told.get(line, 0) + 1
                if line is None:
                    self.assertEqual(write_base(read_base(spoilt)), spoilt)
        self.assertGreater(min(told[line] for line in (None, 1, 2, 3, 4, 5, 6)), 10)

    def test_eight_thousand_signs(self):
        tables = {"abcdef"[number] * 8: (["k", "m", "n"], [(row, -row, row * 10 ** 9) for row in range(30)], ["n"]) for number in range(6)}
        text = write_base(Base(tables))
        self.assertGreater(len(text), 4000)
        self.assertTrue(read_base(text) == Base(tables))


class TestedTexts(Case):

    def test_the_example(self):
        self.tells(TESTED_TEXT, write_tested, PAIR, TESTED)
        self.tells((([("a", "a"), ("b", "b")], [(AK, BK)], [(AK, 2)], [AK], None), TESTED[1]), read_tested, PAIR, TESTED_TEXT)
        by = (PLAIN[:3] + ([AK, BK, AK], BK), [])
        self.tells("from a a\nfrom b b\njoin a.k b.k\nshow a.k b.k a.k\nby b.k\n", write_tested, PAIR, by)
        self.tells((([("a", "a"), ("b", "b")], [(AK, BK)], [], [AK, BK, AK], BK), []), read_tested, PAIR, "from a a\nfrom b b\njoin a.k b.k\nshow a.k b.k a.k\nby b.k\n")

    def test_words_that_stand_for_themselves_elsewhere(self):
        base = Base({"table": (["num", "var", "add", "sub"], [], ["add"]), "from": (["by"], [], [])})
        question = ([("show", "table"), ("by", "from")], [(("show", "num"), ("by", "by"))], [], [("show", "var")], ("by", "by"))
        tested = (question, [("show", ("add", var("num"), ("sub", var("add"), var("var")))), ("by", ("mul", var("by"), num(0)))])
        text = write_tested(base, tested)
        self.assertEqual(text, "from show table\nfrom by from\njoin show.num by.by\ntest show add var num sub var add var var\n"
                               "test by mul var by num 0\nshow show.var\nby by.by\n")
        self.tells(tested, read_tested, base, text)
        self.assertTrue(read_base(write_base(base)) == base)

    def test_wrong_lines(self):
        one = "from a a\nfrom b b\n"
        for text, line in (
            ("", 1), ("\n", 1), ("show a.k\n", 1), ("from a a\n", 2), ("from a a", 1), ("from a c\n", 1), ("from A a\n", 1), ("from a\n", 1), ("from a a a\n", 1),
            ("from a a\nfrom a b\n", 2), ("from a a\nby a.k\n", 2), ("from a a\nshow\n", 2), ("from a a\nshow a.n\n", 2), ("from a a\nshow b.k\n", 2), ("from a a\nshow a\n", 2),
            ("from a a\nshow a.k.k\n", 2), ("from a a\nshow a.k\nby a.n\n", 3), ("from a a\nshow a.k\nby a.k a.k\n", 3), ("from a a\nshow a.k\nby\n", 3),
            ("from a a\nshow a.k\nby a.k\nby a.k\n", 4), ("from a a\nshow a.k\nshow a.k\n", 3), ("from a a\nshow a.k\nfrom b b\n", 3), ("from a a\nshow a.k\nby a.k", 3),
            (one + "join a.k a.k\n", 3), (one + "join a.k\n", 3), (one + "join a.k b.k a.k\n", 3), (one + "join a.k b.k\njoin b.k a.k\n", 4), (one + "join a.k b.n\n", 3),
            (one + "join a.k b.k\njoin a.k b.k\n", 4), (one + "join a.k b.k\nfrom c a\n", 4), (one + "pick a.k 1\njoin a.k b.k\n", 4), (one + "join\n", 3),
            (one + "pick a.k\n", 3), (one + "pick a.k 01\n", 3), (one + "pick a.k -0\n", 3), (one + "pick a.k 1 1\n", 3), (one + "pick a.n 1\n", 3),
            (one + "pick a.k 1\npick a.k 1\n", 4), (one + "pick a.k 1\npick a.k 2\n", 5), (one + "test\n", 3), (one + "test a\n", 3), (one + "test c num 1\n", 3),
            (one + "test a num\n", 3), (one + "test a var\n", 3), (one + "test a var K\n", 3), (one + "test a add num 1 var\n", 3), (one + "test a num 1 num 2\n", 3), (one + "test a add num 1\n", 3), (one + "test a add num 1 num 2 num 3\n", 3), (one + "test a var n\n", 3),
            (one + "test a div num 1 num 2\n", 3), (one + "test a num 01\n", 3), (one + "test a num k\n", 3), (one + "test a var 1\n", 3), (one + "test a num 1\npick a.k 1\n", 4),
            (one + "test a add\n", 3), (one + "test a num 1\ntest a num 1\n", 5), (one + "test a num 1", 3), (TESTED_TEXT + "\n", 9), (TESTED_TEXT[:-1], 8), (one, 3),
            (one + "test a  num 1\n", 3), (one + "test a num 1 \n", 3), (one + "show a.k \n", 3), (one + "Show a.k\n", 3), (one + "show a.k b.k .k\n", 3),
        ):
            self.refuses(BadText, "line", line, read_tested, PAIR, text)
        self.refuses(BadText, "line", 1, read_tested, Base({}), "")
        self.refuses(BadText, "line", 1, read_tested, Base({}), "from a a\n")

    def test_many_operations(self):
        # Far more than a tree has; what it lacks is found all the same.
        for text in ("add " * 1500 + "num 1", "add " * 1500, "add num 1 " * 700):
            self.refuses(BadText, "line", 2, read_tested, PAIR, "from a a\ntest a " + text + "\n")

    def test_by_chance(self):
        chance = chance_of(204)
        told = {}
        for _ in range(80):
            base = some_base(chance, 4)
            question = some_question(chance, base, chance.randint(1, 3))
            tested = (question, some_tested(chance, base, 1, 0)[1])
            columns = {word: base.all_tables()[name][0] for word, name in question[0]}
            for word in columns:
                if chance.random() < .6:
                    tested[1].append((word, some_number_tree(chance, chance.randrange(1, 12, 2), columns[word], (0, -7, 12))))
            text = self.told(write_tested, base, tested)
            again = self.told(read_tested, base, text)
            self.assertEqual(again, tested)
            self.assertTrue(is_question(base, again[0]))
            self.assertEqual(write_tested(base, swapped(again)), text)
            self.assertEqual(tested_answer(base, again), tested_answer(base, tested))
            further = ["from x t", "from p t", "join p.k q.k", "pick p.k 1", "test p num 1", "test q var k", "show p.k", "by p.k", ""]
            for spoilt in spoilt_texts(chance, text, 15, further):
                line = wrong_line(spoilt, lambda lines: begins_tested(base, lines), lambda lines: is_tested_text(base, lines))
                self.assertEqual(line_of(lambda: read_tested(base, spoilt)), line, spoilt)
                told[line] = told.get(line, 0) + 1
                if line is None:
                    self.assertEqual(write_tested(base, read_tested(base, spoilt)), spoilt)
        self.assertGreater(min(told[line] for line in (None, 1, 2, 3, 4, 5)), 10)

    def test_bad_tested(self):
        for thing in NO_TESTED:
            self.refuses(BadTested, "tested", thing, write_tested, PAIR, thing)


if __name__ == "__main__":
    unittest.main()
