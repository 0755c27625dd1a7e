"""What the tests of runs, plans, fronts and forms of operator trees share: plain ways, straight from the document."""

from itertools import combinations

from anyprice.bases import Base
from anyprice.operators import tree_amount
from anyprice.questions import rows_of
from helpers import is_under
from test_operators import MODES, group_with, plain_look, trees_over
from test_questions import columns_of


def plain_order(base, question, tree):
    """The rows of a tree in the order in which they come, as dicts from words to rows of tables."""
    sources, joins, picks, _, _ = question
    tables, names = base.all_tables(), dict(sources)

    def number(row, column):
        return row[column[0]][tables[names[column[0]]][0].index(column[1])]

    def fine(row):
        return (all(number(row, column) == worth for column, worth in picks if column[0] in row)
                and all(number(row, one) == number(row, other) for one, other in joins if one[0] in row and other[0] in row))

    def table(word):
        return [{word: row} for row in tables[names[word]][1]]

    if tree[0] == "all":
        return [row for row in table(tree[1]) if fine(row)]
    if tree[0] == "by":
        return [row for row in table(picks[tree[1]][0][0]) if fine(row)]
    if tree[0] == "along":
        return sorted([row for row in table(tree[1]) if fine(row)], key=lambda row: number(row, tree[1:]))
    if tree[0] == "sort":
        return sorted(plain_order(base, question, tree[1]), key=lambda row: number(row, tree[2]))
    if tree[0] == "step":
        words = plain_look(base, question, tree[1])[0]
        outer = [column for column in joins[tree[2]] if column[0] not in words][0]
        return [{**one, **other} for one in plain_order(base, question, tree[1]) for other in table(outer[0]) if fine({**one, **other})]
    ones, others = plain_order(base, question, tree[2]), plain_order(base, question, tree[3])
    if tree[0] == "boxes":
        return [{**one, **other} for other in others for one in ones if fine({**one, **other})]
    return [{**one, **other} for one in ones for other in others if fine({**one, **other})]


def as_rows(question, rows):
    return [tuple(row[word] for word, _ in question[0] if word in row) for row in rows]


def all_sets(question):
    words = [word for word, _ in question[0]]
    return [part for many in range(1, len(words) + 1) for part in combinations(words, many)]


def least_trees(found):
    """The dict without amounts that another one is under."""
    return {amount: tree for amount, tree in found.items() if not any(is_under(other, amount) for other in found)}


def plain_best(base, question):
    """The dict from (set, first column of the order or None) to dicts from least amounts to trees, set by set."""
    sources, joins, picks, _, by = question
    tables, names = base.all_tables(), dict(sources)
    best = {}

    def put(tree):
        words, order = plain_look(base, question, tree)
        place = frozenset(words), None if order is None else group_with(base, question, words, tuple(order))[0]
        best.setdefault(place, {})[tree_amount(base, question, tree)] = tree

    def trees_of(words):
        return [tree for place in list(best) if place[0] == frozenset(words) for tree in list(best[place].values())]

    for words in all_sets(question):
        if len(words) == 1:
            for tree in trees_over(base, question, words[0]):
                put(tree)
        for word in words:
            rest = [other for other in words if other != word]
            for tree in trees_of(rest):
                for at, join in enumerate(joins):
                    for mine, its in (join, join[::-1]):
                        if mine[0] in rest and its[0] == word and its[1] in tables[names[word]][2]:
                            put(("step", tree, at))
        for many in range(1, len(words)):
            for ones in combinations(words, many):
                others = [word for word in words if word not in ones]
                between = [(at, mine, its) for at, join in enumerate(joins) for mine, its in (join, join[::-1])
                           if mine[0] in ones and its[0] in others]
                for one in trees_of(ones):
                    for other in trees_of(others):
                        for mode in MODES:
                            put(("loops", mode, one, other))
                            if between:
                                put(("boxes", mode, one, other))
                            for at, mine, its in between:
                                if is_sorted_by(base, question, one, mine) and is_sorted_by(base, question, other, its):
                                    put(("merge", mode, one, other, at))
        for place in best:
            best[place] = least_trees(best[place])
        for tree in trees_of(words):
            for column in columns_of(base, sources, words):
                if column == by or any(column in join for join in joins):
                    put(("sort", tree, column))
        for place in best:
            best[place] = least_trees(best[place])
    return best


def is_sorted_by(base, question, tree, column):
    words, order = plain_look(base, question, tree)
    return order is not None and column in group_with(base, question, words, tuple(order))


def plain_question_front(base, question):
    best = plain_best(base, question)
    words = frozenset(word for word, _ in question[0])
    by = question[4]
    found = {}
    for (inner, order), trees in best.items():
        if inner == words and (by is None or (order is not None and by in group_with(base, question, words, order))):
            found.update(trees)
    return sorted(least_trees(found))


def is_a_tree_of(base, question, tree):
    """Whether a tree is one of the question."""
    words, _ = plain_look(base, question, tree)
    return len(words) == len(question[0]) and (question[4] is None or is_sorted_by(base, question, tree, tuple(question[4])))


def has_needless_sorts(base, question, tree):
    """Whether some sort has below itself a tree of the set and the order that it makes."""
    if tree[0] == "sort":
        words, column = plain_look(base, question, tree)
        group = group_with(base, question, words, tuple(column))
        waiting = [tree[1]]
        while waiting:
            inner = waiting.pop()
            below, order = plain_look(base, question, inner)
            if below == words and order is not None and tuple(order) in group:
                return True
            waiting += inner_trees(inner)
    return any(has_needless_sorts(base, question, inner) for inner in inner_trees(tree))


def inner_trees(tree):
    if tree[0] in ("all", "by", "along"):
        return []
    return [tree[1]] if tree[0] in ("sort", "step", "tested") else [tree[2], tree[3]]


def renamed(base, question, words, names, columns):
    """The base and the question with words, tables and columns called otherwise, by dicts."""
    tables = {names[name]: ([columns[column] for column in table[0]], table[1], [columns[column] for column in table[2]])
              for name, table in base.all_tables().items()}
    sources, joins, picks, shown, by = question

    def turn(column):
        return None if column is None else (words[column[0]], columns[column[1]])

    return Base(tables), (
        [(words[word], names[name]) for word, name in sources], [(turn(one), turn(other)) for one, other in joins],
        [(turn(column), number) for column, number in picks], [turn(column) for column in shown], turn(by))


def renamed_tree(tree, words, columns):
    if tree[0] == "all":
        return ("all", words[tree[1]])
    if tree[0] == "by":
        return tree
    if tree[0] == "along":
        return ("along", words[tree[1]], columns[tree[2]])
    if tree[0] == "sort":
        return ("sort", renamed_tree(tree[1], words, columns), (words[tree[2][0]], columns[tree[2][1]]))
    if tree[0] == "step":
        return ("step", renamed_tree(tree[1], words, columns), tree[2])
    return tree[:2] + (renamed_tree(tree[2], words, columns), renamed_tree(tree[3], words, columns)) + tree[4:]


OTHER_WORDS = {"p": "zz", "q": "yy", "r": "xx", "s": "ww"}
OTHER_NAMES = {"t": "c", "u": "b", "v": "a"}
OTHER_COLUMNS = {"k": "kk", "m": "aa", "n": "bb"}


def some_big_question(chance, many, joins=3):
    """A base and a question of so many sources, of whose sets none has more than four hundred rows."""
    words = ["p", "q", "r", "s"][:many]
    while True:
        tables = {}
        for name in "tuv":
            columns = list("abcde")
            most = chance.choice([5, 9, 14, 20])
            rows = [tuple(chance.randint(0, most) for _ in columns) for _ in range(chance.choice([10, 20, 30]))]
            tables[name] = (columns, rows, [column for column in columns if chance.random() < .3])
        base = Base(tables)
        sources = [(word, chance.choice("tuv")) for word in words]
        chosen = [((one, chance.choice("abc")), (other, chance.choice("abc"))) for one, other in zip(words, words[1:])]
        columns = columns_of(base, sources)
        while len(chosen) < joins:
            one, other = chance.sample(columns, 2)
            if one[0] != other[0] and (one, other) not in chosen and (other, one) not in chosen:
                chosen.append((one, other))
        question = (sources, chosen, [], [columns[0]], chance.choice([None, columns[0], chosen[0][0]]))
        near = [pair for many in (1, 2) for pair in combinations(words, many)]
        if all(len(rows_of(base, question, list(part))) <= 400 for part in near + [tuple(words)]):
            if all(len(rows_of(base, question, list(part))) <= 400 for part in all_sets(question)):
                return base, question
