"""What the tests of tested questions, wholes and houses share: makers by chance, and plain ways."""

from itertools import combinations, product as all_of

from anyprice.coderuns import run_rows
from anyprice.coding import code_for
from anyprice.fronts import front
from anyprice.machines import Machine
from anyprice.treeplans import tree_program
from anyprice.trees import worth_of
from helpers import is_under, plain_least
from machinery import num, sized, var
from operatorways import all_sets, inner_trees
from test_operators import group_with, plain_look, trees_over
from test_questions import columns_of, plain_rows, some_question

SMALL = Machine([
    ("ld", "reg", "mem", (2, 2)), ("st", "mem", "reg", (2, 2)), ("li", "reg", "num", (1, 3)), ("add", "reg", ("add", "reg", "reg"), (1, 2)),
    ("sub", "reg", ("sub", "reg", "mem"), (3, 1)), ("mul", "reg", ("mul", "reg", "reg"), (4, 2)),
])
QUICK = Machine([
    ("ld", "reg", "mem", (1, 2)), ("li", "reg", "num", (1, 2)), ("add", "reg", ("add", "reg", "reg"), (1, 2)),
    ("sub", "reg", ("sub", "reg", "reg"), (1, 2)), ("subm", "reg", ("sub", "mem", "num"), (1, 9)), ("mul", "reg", ("mul", "reg", "mem"), (3, 1)),
])


def some_tested(chance, base, many, tests, nodes=7):
    """A tested question; trees of few numbers, that some rows meet and some do not."""
    question = some_question(chance, base, many)
    question = question[:1] + (question[1][:many - 1], [] if chance.random() < .7 else question[2]) + question[3:]
    tables, names = base.all_tables(), dict(question[0])
    found = []
    for _ in range(tests):
        word = chance.choice(list(names))
        columns = tables[names[word]][0]
        tree = sized(chance, chance.randrange(1, nodes + 1, 2), lambda: var(chance.choice(columns)) if chance.random() < .7 else num(chance.randint(0, 2)))
        if nodes > 2 and chance.random() < .6:
            tree = ("sub", var(chance.choice(columns)), num(chance.randint(0, 1)))
        found.append((word, tree))
    return question, found


def plain_tested_rows(base, tested, words, numbers):
    """The rows of a set that meet tests, each looked at."""
    question, tests = tested
    tables, names = base.all_tables(), dict(question[0])
    order = [word for word, _ in question[0] if word in words]

    def meets(row, number):
        word, tree = tests[number]
        return worth_of(tree, dict(zip(tables[names[word]][0], row[order.index(word)]))) > 0

    return [row for row in plain_rows(base, question, words) if all(meets(row, number) for number in numbers)]


def look(base, tested, tree):
    """The triple (words, order, tests done) of a whole tree that is one."""
    question = tested[0]
    if tree[0] == "tested":
        words, order, done = look(base, tested, tree[1])
        return words, order, done | {tree[2]}
    if tree[0] in ("all", "by", "along"):
        return plain_look(base, question, tree) + (frozenset(),)
    parts = [look(base, tested, part) for part in inner_trees(tree)]
    # Which order comes of which parts does not hang on tests.
    words, order = plain_look(base, question, without_tests(tree))
    return words, order, frozenset().union(*[part[2] for part in parts])


def without_tests(tree):
    if tree[0] in ("all", "by", "along"):
        return tree
    if tree[0] == "tested":
        return without_tests(tree[1])
    if tree[0] in ("sort", "step"):
        return (tree[0], without_tests(tree[1]), tree[2])
    return tree[:2] + (without_tests(tree[2]), without_tests(tree[3])) + tree[4:]


def rows_in(base, tested, words, done, known={}):
    place = (id(base), id(tested), tuple(sorted(words)), tuple(sorted(done)))
    if known.get(place, (None, None))[0] is not tested:
        known[place] = (tested, plain_tested_rows(base, tested, words, done))
    return known[place][1]


def weigh(base, tested, tree, counted):
    """The amount (steps, bytes, room), by the table of 16.2 and by 19.3; counted are (cycles, bytes) of codes."""
    question = tested[0]
    tables, names = base.all_tables(), dict(question[0])
    words, _, done = look(base, tested, tree)
    size = len(rows_in(base, tested, words, done))

    def worth(inner, row, column):
        order = [word for word, _ in question[0] if word in inner]
        return row[order.index(column[0])][tables[names[column[0]]][0].index(column[1])]

    def of_table(column):
        return [row[tables[names[column[0]]][0].index(column[1])] for row in tables[names[column[0]]][1]]

    parts = [weigh(base, tested, part, counted) for part in inner_trees(tree)]
    looks = [look(base, tested, part) for part in inner_trees(tree)]
    rows = [rows_in(base, tested, part[0], part[2]) for part in looks]
    many = [len(inner) for inner in rows]
    code = 0
    need = max([part[2] for part in parts], default=0)
    if tree[0] in ("all", "along"):
        steps, room = len(tables[names[tree[1]]][1]) * (1 if tree[0] == "all" else 2), size
    elif tree[0] == "by":
        column, number = question[2][tree[1]]
        steps, room = 1 + of_table(column).count(number), size
    elif tree[0] == "sort":
        steps, room = many[0] * min(p for p in range(20) if 2 ** p >= many[0]), 2 * many[0]
    elif tree[0] == "tested":
        steps, room = many[0], many[0] + size
        if many[0]:
            steps, code = steps + many[0] * counted[tree[2]][0], counted[tree[2]][1]
    elif tree[0] == "step":
        mine, its = sorted(question[1][tree[2]], key=lambda column: column[0] not in looks[0][0])
        steps = many[0] + sum(worth(looks[0][0], row, mine) == number for row in rows[0] for number in of_table(its))
        room = many[0] + size
    else:
        room = many[0] + many[1] + size
        steps = many[0] * many[1]
        if tree[0] == "boxes":
            steps, room = many[0] + many[1] + size, room + many[0]
        if tree[0] == "merge":
            mine, its = sorted(question[1][tree[4]], key=lambda column: column[0] not in looks[0][0])
            steps = many[0] + many[1] + sum(worth(looks[0][0], one, mine) == worth(looks[1][0], other, its)
                                            for one in rows[0] for other in rows[1])
        if tree[1] == "left":
            need = max(parts[0][2], many[0] + parts[1][2])
        else:
            need = max(parts[1][2], many[1] + parts[0][2])
    return steps + sum(part[0] for part in parts), code + sum(part[1] for part in parts), max(room, need)


def codes_for(machine, registers, tree):
    """The dict from (cycles, bytes) that code within the registers counts at least to such code."""
    program = tree_program(machine, tree)
    amounts = [row for row in (front(program, "r0.") if "r0." in program.things() else []) if row[2] <= registers]
    return {row[:2]: code_for(machine, tree, row) for row in amounts if row[:2] in plain_least(amount[:2] for amount in amounts)}


def plain_trees(base, tested, counted):
    """The dict from (set, order, done) to dicts from least amounts to trees, with codes that count so."""
    question, tests = tested
    sources, joins, picks, _, by = question
    tables, names = base.all_tables(), dict(sources)
    best = {}

    def put(tree):
        words, order, done = look(base, tested, tree)
        place = frozenset(words), None if order is None else group_with(base, question, words, tuple(order))[0], done
        best.setdefault(place, {})[weigh(base, tested, tree, counted)] = tree

    def trees_of(words):
        return [tree for place in list(best) if place[0] == frozenset(words) for tree in list(best[place].values())]

    def tidy():
        for place in best:
            best[place] = {amount: tree for amount, tree in best[place].items() if not any(is_under(other, amount) for other in best[place])}

    def is_sorted_by(tree, column):
        words, order, _ = look(base, tested, tree)
        return order is not None and column in group_with(base, question, words, tuple(order))

    for words in all_sets(question):
        if len(words) == 1:
            for tree in trees_over(base, question, words[0]):
                put(tree)
        for word in words:
            rest = [other for other in words if other != word]
            for tree in trees_of(rest):
                for at, join in enumerate(joins):
                    for mine, its in (join, join[::-1]):
                        if mine[0] in rest and its[0] == word and its[1] in tables[names[word]][2]:
                            put(("step", tree, at))
        for many in range(1, len(words)):
            for ones in combinations(words, many):
                others = [word for word in words if word not in ones]
                between = [(at, mine, its) for at, join in enumerate(joins) for mine, its in (join, join[::-1])
                           if mine[0] in ones and its[0] in others]
                for one, other in all_of(trees_of(ones), trees_of(others)):
                    for mode in ("left", "right"):
                        put(("loops", mode, one, other))
                        if between:
                            put(("boxes", mode, one, other))
                        for at, mine, its in between:
                            if is_sorted_by(one, mine) and is_sorted_by(other, its):
                                put(("merge", mode, one, other, at))
        tidy()
        for _ in range(len(tests) + 1):
            for tree in trees_of(words):
                for column in columns_of(base, sources, words):
                    if column == by or any(column in join for join in joins):
                        put(("sort", tree, column))
            tidy()
            for tree in trees_of(words):
                done = look(base, tested, tree)[2]
                for number, (word, _) in enumerate(tests):
                    if word in words and number not in done:
                        put(("tested", tree, number))
            tidy()
    return best


def plain_whole_front(base, tested, machine, registers):
    """The dict from the amounts of the front to pairs (tree, dict from tests to (cycles, bytes)); None without code."""
    question, tests = tested
    options = [list(codes_for(machine, registers, tree)) for _, tree in tests]
    if not all(options):
        return None
    words = frozenset(word for word, _ in question[0])
    found = {}
    for chosen in all_of(*options):
        counted = dict(enumerate(chosen))
        for (inner, order, done), trees in plain_trees(base, tested, counted).items():
            fits = question[4] is None or (order is not None and question[4] in group_with(base, question, words, order))
            if inner == words and fits and len(done) == len(tests):
                found.update({amount: (tree, counted) for amount, tree in trees.items()})
    return {amount: found[amount] for amount in plain_least(found)}


def tests_in(base, tested, tree):
    """The dict from the tests in a whole tree to how many rows come to them."""
    found = {}
    for part in inner_trees(tree):
        found.update(tests_in(base, tested, part))
    if tree[0] == "tested":
        words, _, done = look(base, tested, tree[1])
        found[tree[2]] = len(rows_in(base, tested, words, done))
    return found


def some_whole(chance, base, tested, machine, registers):
    """A whole by chance: any trees, any code; None if a test has no code."""
    question, tests = tested
    options = [list(codes_for(machine, registers, tree).values()) for _, tree in tests]
    if not all(options):
        return None
    words = [word for word, _ in question[0]]
    trees = [chance.choice(trees_over(base, question, word)) for word in words]
    done = set()
    while len(trees) > 1 or len(done) < len(tests):
        if len(trees) > 1 and chance.random() < .5:
            one, other = chance.sample(trees, 2)
            ones, others = look(base, tested, one)[0], look(base, tested, other)[0]
            linked = any(join[0][0] in ones and join[1][0] in others or join[1][0] in ones and join[0][0] in others for join in question[1])
            trees = [tree for tree in trees if tree not in (one, other)]
            trees.append((chance.choice(["loops", "boxes"]) if linked else "loops", chance.choice(["left", "right"]), one, other))
        elif len(done) < len(tests):
            number = chance.choice([number for number in range(len(tests)) if number not in done])
            at = [at for at, tree in enumerate(trees) if tests[number][0] in look(base, tested, tree)[0]][0]
            trees[at] = ("tested", trees[at], number)
            done.add(number)
        if chance.random() < .3:
            at = chance.randrange(len(trees))
            inner = look(base, tested, trees[at])[0]
            columns = [column for column in columns_of(base, question[0], inner) if any(column in join for join in question[1])]
            trees[at] = ("sort", trees[at], chance.choice(columns)) if columns else trees[at]
    tree = trees[0] if question[4] is None else ("sort", trees[0], question[4])
    coming = tests_in(base, tested, tree)
    return tree, {number: chance.choice(options[number]) for number in coming if coming[number]}


def counted_by(machine, whole, values):
    """What the codes of a whole count: the dict from tests to (cycles, bytes)."""
    return {number: run_rows(machine, code, values)[1][:2] for number, code in whole[1].items()}

