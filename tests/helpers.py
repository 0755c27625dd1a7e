"""What the tests share: a test case that asks in every way, plain ways to work things out, programs of all shapes."""

import copy
import inspect
import itertools
import random
import unittest

from anyprice.programs import Program

HOW = ("times", "most")

# The program of the document's example 5.7.
EXAMPLE = Program(["flat", "high"], [
    ("a", [], (5, 1), HOW),
    ("a", [], (2, 4), HOW),
    ("b", [("a", 3, (0, 0))], (1, 2), HOW),
    ("c", [("a", 1, (0, 0)), ("b", 1, (0, 2))], (0, 3), HOW),
    ("a", [("c", 1, (0, 0))], (0, 0), HOW),
])


def some_function(number):
    return number


# One of each kind of object, none of which is a list.
NO_LISTS = [None, True, False, 0, 1, -1, 10 ** 30, "", "a", "ab", "flat", {}, {"a": 1}, {0: (1, 2)}, some_function, EXAMPLE]
# Things that are no integers; and such as are none from 0 on.
NO_INTEGERS = [None, True, False, "", "1", [], [1], (), (0,), {}, some_function, EXAMPLE]
NO_NUMBERS = NO_INTEGERS + [-1, -10 ** 30]
# Things that are no amounts, of however many resources.
NO_AMOUNTS = NO_LISTS + [
    [], (), [[]], [()], [None], [True], [False, 0], [0, True], ["1"], "12", [-1], [0, -1], [1, 0, -1], [1, 2, 3, 4],
    [[1]], [(1, 2)], [{}], [0, some_function], [EXAMPLE],
]
# Things that are no prices, rim too.
NO_PRICES = NO_AMOUNTS + [[0], (0, 0), [0, 0, 0]]
# Things that are no things of programs.
NO_NAMES = [None, True, 0, 1, [], ["a"], ("a",), {}, some_function, EXAMPLE, "", "A", "aB", "a b", " a", "a\n", "a_b",
            "a" * 25, "\u00e4", "\u00b2", "\u0661", "a,b", "a:"]


def swapped(thing):
    """Lists for tuples and tuples for lists, at every depth (not in keys)."""
    if isinstance(thing, list):
        return tuple(swapped(inner) for inner in thing)
    if isinstance(thing, tuple):
        return [swapped(inner) for inner in thing]
    if isinstance(thing, dict):
        return {key: swapped(worth) for key, worth in thing.items()}
    return thing


def spoil(thing):
    """Change a told list or dict, and what can be changed within it."""
    if isinstance(thing, dict):
        for worth in thing.values():
            spoil(worth)
        thing.clear()
    if isinstance(thing, (list, tuple)):
        for inner in thing:
            spoil(inner)
    if isinstance(thing, list):
        thing.append("spoilt")


class Case(unittest.TestCase):
    """Asks as callers may: by place and by name, with lists and tuples, again and again."""

    def told(self, call, *passed):
        """What a call tells, which must be the same however it is asked, and leave what is passed as it is."""
        before = copy.deepcopy(passed)
        first = call(*passed)
        self.assertEqual(passed, before)
        kept = copy.deepcopy(first)
        names = list(inspect.signature(call).parameters)
        by_name = call(**dict(zip(names, passed)))
        turned = call(*swapped(passed))
        for again in (by_name, turned):
            self.assertEqual(again, kept)
            self.assertIs(type(again), type(kept))
            if not isinstance(again, Program):
                self.assertEqual(repr(again), repr(kept))
        if isinstance(first, (list, dict)):
            self.assertIsNot(first, by_name)
        if isinstance(first, dict):
            self.assertEqual(list(first), sorted(first))
        spoil(first)
        self.assertEqual(call(*passed), kept)
        self.assertEqual(passed, before)
        return kept

    def tells(self, expected, call, *passed):
        """That a call tells just this, of just these kinds."""
        told = self.told(call, *passed)
        self.assertEqual(told, expected)
        if not isinstance(told, Program):
            self.assertEqual(repr(told), repr(expected))

    def refuses(self, error, name, kept, call, *passed):
        """That a call raises just this error, which keeps the very object under the name, and changes nothing."""
        before = copy.deepcopy(passed)
        names = list(inspect.signature(call).parameters)
        for ask in (lambda: call(*passed), lambda: call(**dict(zip(names, passed)))):
            with self.assertRaises(error) as caught:
                ask()
            self.assertIs(type(caught.exception), error)
            if name is not None:
                self.assertIs(getattr(caught.exception, name), kept)
        self.assertEqual(passed, before)


# Plain ways, straight from the words of the document, however slow.


def is_under(one, other):
    return one != other and all(number <= limit for number, limit in zip(one, other))


def is_at_most(one, other):
    return all(number <= limit for number, limit in zip(one, other))


def plain_least(rows):
    rows = set(rows)
    return sorted(row for row in rows if not any(is_under(other, row) for other in rows))


def product(one, other):
    return sum(number * factor for number, factor in zip(one, other))


def cross(one, other):
    return (one[1] * other[2] - one[2] * other[1], one[2] * other[0] - one[0] * other[2],
            one[0] * other[1] - one[1] * other[0])


def plain_made(rule, amounts):
    row = []
    for at, word in enumerate(rule[3]):
        if word == "times":
            row.append(rule[2][at] + sum(part[1] * amount[at] for part, amount in zip(rule[1], amounts)))
        elif word == "sum":
            row.append(rule[2][at] + sum(amount[at] for amount in amounts))
        else:
            row.append(max([rule[2][at]] + [part[2][at] + amount[at] for part, amount in zip(rule[1], amounts)]))
    return tuple(row)


def plain_fronts(program):
    """Rounds from no amounts at all, until nothing changes."""
    fronts = {thing: [] for thing in program.things()}
    while True:
        made = {thing: [] for thing in fronts}
        for rule in program.all_rules():
            for amounts in itertools.product(*[fronts[part[0]] for part in rule[1]]):
                made[rule[0]].append(plain_made(rule, amounts))
        further = {thing: plain_least(rows) for thing, rows in made.items()}
        if further == fronts:
            return fronts
        fronts = further


def tree_of(plan, row=-1):
    return (plan[row][0], tuple(tree_of(plan, below) for below in plan[row][1]))


def tree_amount(program, tree):
    return plain_made(program.all_rules()[tree[0]], [tree_amount(program, inner) for inner in tree[1]])


def tree_counts(program, tree, with_times):
    counts = [0] * len(program)
    counts[tree[0]] = 1
    for inner, part in zip(tree[1], program.all_rules()[tree[0]][1]):
        for number, count in enumerate(tree_counts(program, inner, with_times)):
            counts[number] += count * (part[1] if with_times else 1)
    return counts


def tree_is_straight(program, tree, above=()):
    head = program.all_rules()[tree[0]][0]
    return head not in above and all(tree_is_straight(program, inner, above + (head,)) for inner in tree[1])


def tree_height(tree):
    return 1 + max([tree_height(inner) for inner in tree[1]], default=0)


def tree_with(plan, row, graft, at):
    """The plan as a tree, with another tree wherever this row is."""
    if at == row:
        return graft
    return (plan[at][0], tuple(tree_with(plan, row, graft, below) for below in plan[at][1]))


def trees_up_to(program, height, limit):
    """All plans of all things as trees, no higher than this; None if there are more than the limit."""
    trees = {thing: set() for thing in program.things()}
    for _ in range(height):
        further = {thing: set() for thing in trees}
        for number, rule in enumerate(program.all_rules()):
            many = 1
            for part in rule[1]:
                many *= len(trees[part[0]])
            if many > limit:
                return None
            for inner in itertools.product(*[sorted(trees[part[0]]) for part in rule[1]]):
                further[rule[0]].add((number, inner))
        if sum(len(found) for found in further.values()) > limit:
            return None
        trees = further
    return trees


def some_program(chance, things, rules, greatest):
    """A program with rings, things without plans, parts twice and all words."""
    many = chance.randint(1, 3)
    sorts = [chance.choice(["flat", "high"]) for _ in range(many)]
    names = [f"t{number}" for number in range(things)]
    made = []
    for _ in range(rules):
        how = [chance.choice(["times", "sum", "most"] if sort == "high" else ["times", "sum"]) for sort in sorts]
        parts = [
            (chance.choice(names), chance.randint(1, 3), [chance.randint(0, 2) if w == "most" else 0 for w in how])
            for _ in range(chance.choice([0, 0, 1, 1, 2, 2, 3, 4]))
        ]
        made.append((chance.choice(names), parts, [chance.randint(0, greatest) for _ in sorts], how))
    return Program(sorts, made)


def some_plan(chance, program, rounds):
    """A plan that rows taken at random leave, None if nothing has a plan."""
    rules = program.all_rules()
    rows, heads = [], []
    for _ in range(rounds):
        fit = [number for number, rule in enumerate(rules) if all(part[0] in heads for part in rule[1])]
        if not fit:
            return None
        number = chance.choice(fit)
        below = [chance.choice([at for at, head in enumerate(heads) if head == part[0]]) for part in rules[number][1]]
        rows.append((number, tuple(below)))
        heads.append(rules[number][0])
    last = chance.randrange(len(rows))
    kept = {last}
    for at in range(last, -1, -1):
        if at in kept:
            kept.update(rows[at][1])
    places = {at: place for place, at in enumerate(sorted(kept))}
    return [(rows[at][0], tuple(places[below] for below in rows[at][1])) for at in sorted(kept)]


def tree_size(plan):
    """How many rows the plan has as a tree."""
    sizes = []
    for _, below in plan:
        sizes.append(1 + sum(sizes[row] for row in below))
    return sizes[-1]


def chance_of(number):
    return random.Random(number)
