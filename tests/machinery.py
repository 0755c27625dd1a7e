"""What the tests of trees, machines, code and wholes share: makers by chance, and plain ways to work things out."""

import itertools

from anyprice.machines import Machine
from anyprice.trees import worth_of

OPERATIONS = ("add", "sub", "mul")

# The machine and the tree of the document's example 17.6.
M = Machine([
    ("ld", "reg", "mem", (2, 2)), ("st", "mem", "reg", (2, 2)), ("li", "reg", "num", (1, 2)),
    ("add", "reg", ("add", "reg", "reg"), (1, 1)), ("sub", "reg", ("sub", "reg", "reg"), (1, 1)),
    ("mul", "reg", ("mul", "reg", "reg"), (4, 1)), ("addm", "reg", ("add", "reg", "mem"), (2, 2)),
    ("mac", "reg", ("add", "reg", ("mul", "reg", "reg")), (4, 2)),
])
T = ("add", ("var", "a"), ("mul", ("var", "b"), ("var", "c")))
PLAIN_ROWS = [
    ("ld", "reg", "mem"), ("st", "mem", "reg"), ("li", "reg", "num"), ("add", "reg", ("add", "reg", "reg")),
    ("sub", "reg", ("sub", "reg", "reg")), ("mul", "reg", ("mul", "reg", "reg")),
]


def var(word):
    return ("var", word)


def num(number):
    return ("num", number)


def sized(chance, nodes, leaf):
    """A tree, or a pattern, of so many nodes, an odd number."""
    if nodes <= 1:
        return leaf()
    left = chance.randrange(1, nodes - 1, 2)
    return (chance.choice(OPERATIONS), sized(chance, left, leaf), sized(chance, nodes - 1 - left, leaf))


def some_number_tree(chance, nodes, words="abc", numbers=(0, 1, 7)):
    return sized(chance, nodes, lambda: var(chance.choice(words)) if chance.random() < .6 else num(chance.choice(numbers)))


def leaves_in(pattern):
    """The leaves of a pattern, from left to right."""
    if isinstance(pattern, str):
        return [pattern]
    return [] if pattern[0] == "num" else leaves_in(pattern[1]) + leaves_in(pattern[2])


def some_pattern(chance, nodes):
    while True:
        pattern = sized(chance, nodes, lambda: chance.choice(["reg", "reg", "mem", "num", num(1)]))
        if len([leaf for leaf in leaves_in(pattern) if leaf != "num"]) <= 3:
            return pattern


def some_machine(chance, further=3, left_out=0, greatest=6, most_nodes=7):
    """A plain machine, with further instructions, and some left out."""
    def amount():
        return (chance.randint(0, greatest), chance.randint(0, greatest))
    rows = [row + (amount(),) for row in PLAIN_ROWS]
    for number in range(further):
        place = chance.choice(["reg", "reg", "mem"])
        rows.append(("x" + "abcdefgh"[number], place, some_pattern(chance, chance.randrange(1, most_nodes + 1, 2)), amount()))
    for _ in range(left_out):
        rows.remove(chance.choice(rows))
    chance.shuffle(rows)
    return Machine(rows)


def nodes_in(tree):
    return 1 if len(tree) == 2 else 1 + nodes_in(tree[1]) + nodes_in(tree[2])


def words_of(tree):
    if len(tree) == 2:
        return {tree[1]} if tree[0] == "var" else set()
    return words_of(tree[1]) | words_of(tree[2])


def plain_fit(pattern, tree, path=()):
    """The leaves (kind, path, number) of a pattern that fits at a tree, None if it does not."""
    if pattern in ("reg", "mem"):
        return [(pattern, path, None)]
    if pattern == "num":
        return [("num", path, tree[1])] if tree[0] == "num" else None
    if pattern[0] == "num":
        return [] if tree == pattern else None
    if tree[0] != pattern[0]:
        return None
    one, other = plain_fit(pattern[1], tree[1], path + (0,)), plain_fit(pattern[2], tree[2], path + (1,))
    return None if one is None or other is None else one + other


def at_path(tree, path):
    for side in path:
        tree = tree[1 + side]
    return tree


def plain_rules(machine, tree):
    """The rules of 17.3, by its words."""
    def name(place, held, path):
        figures = "".join(map(str, path))
        return f"m{figures}" if place == "mem" else f"r{held}.{figures}"

    def rules_for(place, held, path):
        told, leads = [], []
        node = at_path(tree, path)
        how = ("times", "sum", "most")
        if place == "mem" and node[0] == "var":
            told.append((name(place, held, path), (), (0, 0, 0), how))
        for _, target, pattern, (cycles, size) in machine.instructions():
            leaves = plain_fit(pattern, node)
            if target != place or leaves is None:
                continue
            mems = [path + leaf[1] for leaf in leaves if leaf[0] == "mem"]
            regs = [path + leaf[1] for leaf in leaves if leaf[0] == "reg"]
            registers = max(held + len(regs), held + 1) if place == "reg" else len(regs)
            for order in itertools.permutations(range(len(regs))):
                below = [("mem", 0, inner) for inner in mems]
                below += [("reg", held + at, regs[leaf]) for at, leaf in enumerate(order)]
                parts = tuple((name(*lead), 1, (0, 0, 0)) for lead in below)
                told.append((name(place, held, path), parts, (cycles, size, registers), how))
                leads += below
        return told, leads

    found = {}
    waiting = [("reg", 0, ())]
    while waiting:
        place = waiting.pop()
        if place not in found:
            found[place], leads = rules_for(*place)
            waiting += leads
    return [rule for place in sorted(found, key=lambda place: name(*place)) for rule in found[place]]


def plain_numbers(machine):
    def numbers(pattern):
        if isinstance(pattern, str):
            return set()
        return {pattern[1]} if pattern[0] == "num" else numbers(pattern[1]) | numbers(pattern[2])
    return set().union(*[numbers(row[2]) for row in machine.instructions()])


def sample_trees(machine, most):
    """All sample trees of at most so many nodes, in their order."""
    numbers = plain_numbers(machine)
    numbers.add(min(number for number in range(len(numbers) + 1) if number not in numbers))
    sizes = {1: sorted([num(number) for number in numbers] + [var("x")])}
    for size in range(3, most + 1, 2):
        sizes[size] = sorted(
            (word, one, other) for word in OPERATIONS for left in range(1, size - 1, 2)
            for one in sizes[left] for other in sizes[size - 1 - left])
    return [tree for size in sorted(sizes) for tree in sizes[size]]


def plain_run(machine, rows, values):
    """The worth and what is counted, row by row, as 18.2 says."""
    known = {row[0]: row for row in machine.instructions()}
    held, written, cycles, size, last = {}, set(), 0, 0, None
    for word, target, operands in rows:
        _, place, pattern, amount = known[word]
        waiting = list(operands)

        def put(part):
            if isinstance(part, str):
                operand = waiting.pop(0)
                if part == "num":
                    return num(operand)
                return num(values[operand] if isinstance(operand, str) else held[part, operand])
            return part if part[0] == "num" else (part[0], put(part[1]), put(part[2]))

        held[place, target] = worth_of(put(pattern), {})
        last = held[place, target]
        written |= {target} if place == "reg" else set()
        cycles, size = cycles + amount[0], size + amount[1]
    return last, (cycles, size, len(written))


def plain_reads(machine, rows):
    """For each row the numbers of the rows whose results its operands read, with the kind of the operand."""
    known = {row[0]: row for row in machine.instructions()}
    written, found = {}, []
    for number, (word, target, operands) in enumerate(rows):
        leaves = leaves_in(known[word][2])
        found.append([(leaf, written[leaf, operand]) for leaf, operand in zip(leaves, operands)
                      if leaf != "num" and not isinstance(operand, str)])
        written[known[word][1], target] = number
    return found


def shuffled_code(chance, machine, rows):
    """The same rows in another order, registers and cells named anew at random."""
    known = {row[0]: row for row in machine.instructions()}
    reads = plain_reads(machine, rows)
    order, names, free = [], {}, list(range(60))
    chance.shuffle(free)
    users = {inner: number for number, read in enumerate(reads) for _, inner in read}
    while len(order) < len(rows):
        ready = [number for number in range(len(rows)) if number not in order and all(inner in order for _, inner in reads[number])]
        order.append(chance.choice(ready))
    told = []
    for number in order:
        word, _, operands = rows[number]
        inner = iter([names[read] for _, read in reads[number]])
        fresh = [operand if leaf == "num" or isinstance(operand, str) else next(inner)
                 for leaf, operand in zip(leaves_in(known[word][2]), operands)]
        # What was read just now can be named again, or not.
        if chance.random() < .7:
            free += [names[read] for _, read in reads[number]]
        names[number] = free.pop() if chance.random() < .5 else free.pop(0)
        told.append((word, names[number], tuple(fresh)))
    assert len(users) == len(rows) - 1
    return told
