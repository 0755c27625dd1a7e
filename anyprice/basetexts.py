"""Texts of bases and of tested questions."""

from anyprice.asked import Asked
from anyprice.bases import Base, are_unlike_words
from anyprice.lines import as_line, is_written_number, number_of, numbers_of_words, read_lines
from anyprice.questions import are_joins, are_picks
from anyprice.refusals import BadText
from anyprice.tested import asked_with_tests, is_test
from anyprice.trees import OPERATIONS
from anyprice.words import is_word

KINDS = ("from", "join", "pick", "test", "show", "by")


def write_base(base):
    """The text of a base."""
    lines = []
    for name, (columns, rows, indexed) in base.all_tables().items():
        lines.append(as_line(["table", name]))
        lines.append(as_line(["columns"] + list(columns)))
        lines.append(as_line(["indexed"] + list(indexed)))
        lines.extend([as_line(["row"] + list(row)) for row in rows])
    return "".join(lines)


class BaseLines:
    """The lines of a base's text, read one behind another."""

    def __init__(self):
        self.tables = {}
        self.name = ""
        self.wanted = "row"

    def take_line(self, words):
        """Whether the words fit behind the lines that were taken; they are taken then."""
        word, told = words[0], words[1:]
        if word == "table" and self.wanted == "row":
            return self.take_name(told)
        if word != self.wanted or self.name == "":
            return False
        if word == "columns":
            return self.take_columns(told)
        return self.take_indexed(told) if word == "indexed" else self.take_numbers(told)

    def take_name(self, told):
        """A line that begins a table: names ascend."""
        if len(told) != 1 or not is_word(told[0]) or told[0] <= self.name:
            return False
        self.name = told[0]
        self.wanted = "columns"
        return True

    def take_columns(self, told):
        """The line of a table's columns."""
        if len(told) == 0 or not are_unlike_words(told):
            return False
        self.tables[self.name] = (told, [], [])
        self.wanted = "indexed"
        return True

    def take_indexed(self, told):
        """The line of those that are indexed, in the order of the columns."""
        columns = self.tables[self.name][0]
        if told != [word for word in columns if word in told]:
            return False
        self.tables[self.name] = (columns, [], told)
        self.wanted = "row"
        return True

    def take_numbers(self, told):
        """The line of a row."""
        columns, rows, indexed = self.tables[self.name]
        numbers = numbers_of_words(told)
        if numbers is None or len(numbers) != len(columns):
            return False
        self.tables[self.name] = (columns, rows + [numbers], indexed)
        return True


def read_base(text):
    """The base of a text."""
    taker = BaseLines()
    many = read_lines(text, taker)
    if taker.wanted != "row":
        raise BadText(many + 1)
    return Base(taker.tables)


def as_place(column):
    """A column as it is written."""
    return column[0] + "." + column[1]


def words_of_tree(tree):
    """The list of the words that write a tree, operations ahead of both sides."""
    found = []
    waiting = [tree]
    while waiting:
        inner = waiting.pop()
        found.append(inner[0])
        if len(inner) == 2:
            found.append(inner[1])
        else:
            waiting.extend([inner[2], inner[1]])
    return found


def write_tested(base, tested):
    """The text of a tested question of the base."""
    asked = asked_with_tests(base, tested)
    lines = [["from", word, name] for word, name in asked.sources]
    lines.extend([["join", as_place(one), as_place(other)] for one, other in asked.joins])
    lines.extend([["pick", as_place(column), number] for column, number in asked.picks])
    lines.extend([["test", word] + words_of_tree(tree) for word, tree in asked.tests])
    lines.append(["show"] + [as_place(column) for column in asked.shown])
    if asked.by is not None:
        lines.append(["by", as_place(asked.by)])
    return "".join([as_line(words) for words in lines])


def tree_in(words):
    """The tree that words write, None if they write none.

    Operations wait with the side that they have, if they have one, until both are read.
    """
    waiting = []
    at = 0
    while at < len(words):
        if words[at] in OPERATIONS:
            waiting.append([words[at]])
            at += 1
        else:
            tree = leaf_in(words[at:at + 2])
            at += 2
            if tree is None:
                return None
            while waiting and len(waiting[-1]) == 2:
                word, one = waiting.pop()
                tree = (word, one, tree)
            if not waiting:
                return tree if at == len(words) else None
            waiting[-1].append(tree)
    return None


def leaf_in(words):
    """The number or variable that two words write, None if they write none."""
    if len(words) == 2 and words[0] == "num" and is_written_number(words[1]):
        return "num", number_of(words[1])
    return ("var", words[1]) if len(words) == 2 and words[0] == "var" and is_word(words[1]) else None


class TestedLines:
    """The lines of a tested question's text, read one behind another: kinds of lines stand in one order alone."""

    def __init__(self, base):
        self.base = base
        self.found = {kind: [] for kind in KINDS}
        self.last = "from"

    def take_line(self, words):
        """Whether the words fit behind the lines that were taken; they are taken then."""
        if words[0] not in KINDS or KINDS.index(words[0]) < KINDS.index(self.last):
            return False
        if self.last == "show" and words[0] != "by":
            return False
        if words[0] == "by" and self.last != "show":
            return False
        taken = self.line_of(words[0], words[1:])
        if taken is None:
            return False
        self.found[words[0]].append(taken)
        self.last = words[0]
        return True

    def asked_so_far(self):
        """The sources so far as a question that is worked with."""
        return Asked(self.base, (self.found["from"], (), (), (), None))

    def line_of(self, kind, told):
        """What a line of a kind says, None if it can not stand here."""
        if kind == "from":
            return self.source_of(told)
        asked = self.asked_so_far()
        if kind == "test":
            test = (told[0], tree_in(told[1:])) if told else None
            return test if is_test(asked, test) else None
        if kind == "pick":
            return self.pick_of(asked, told)
        columns = [tuple(word.split(".")) for word in told]
        if not columns or not all([asked.has_column(column) for column in columns]):
            return None
        if kind == "join":
            return columns if are_joins(asked, self.found["join"] + [columns]) else None
        return columns if kind == "show" or len(columns) == 1 else None

    def source_of(self, told):
        """A source: its word is no earlier one's, its table one of the base."""
        words = [word for word, _ in self.found["from"]]
        if len(told) != 2 or not is_word(told[0]) or told[0] in words or told[1] not in self.base.all_tables():
            return None
        return told

    def pick_of(self, asked, told):
        """A pick that is no earlier one."""
        if len(told) != 2 or not is_written_number(told[1]):
            return None
        pick = (tuple(told[0].split(".")), number_of(told[1]))
        return pick if are_picks(asked, self.found["pick"] + [pick]) else None


def read_tested(base, text):
    """The pair of a question of the base, as told ones are, and a list of tests."""
    taker = TestedLines(base)
    many = read_lines(text, taker)
    found = taker.found
    if not found["show"]:
        raise BadText(many + 1)
    by = found["by"][0][0] if found["by"] else None
    sources = [tuple(source) for source in found["from"]]
    joins = [tuple(join) for join in found["join"]]
    return (sources, joins, list(found["pick"]), found["show"][0], by), list(found["test"])
