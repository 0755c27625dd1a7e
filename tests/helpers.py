"""What the tests share: a test case that asks in every way, plain ways to work things out, programs of all shapes."""

import copy
import inspect
import itertools
import random
import unittest
from math import gcd, isqrt

from anyprice.programs import Program

HOW = ("times", "most")

# The program of the document's example 5.7.
EXAMPLE = Program(["flat", "high"], [
    ("a", [], (5, 1), HOW),
    ("a", [], (2, 4), HOW),
    ("b", [("a", 3, (0, 0))], (1, 2), HOW),
    ("c", [("a", 1, (0, 0)), ("b", 1, (0, 2))], (0, 3), HOW),
    ("a", [("c", 1, (0, 0))], (0, 0), HOW),
])


def some_function(number):
    return number


# One of each kind of object, none of which is a list.
NO_LISTS = [None, True, False, 0, 1, -1, 10 ** 30, "", "a", "ab", "flat", {}, {"a": 1}, {0: (1, 2)}, some_function, EXAMPLE]
# Things that are no integers; and such as are none from 0 on.
NO_INTEGERS = [None, True, False, "", "1", [], [1], (), (0,), {}, some_function, EXAMPLE]
NO_NUMBERS = NO_INTEGERS + [-1, -10 ** 30]
# Things that are no amounts, of however many resources.
NO_AMOUNTS = NO_LISTS + [
    [], (), [[]], [()], [None], [True], [False, 0], [0, True], ["1"], "12", [-1], [0, -1], [1, 0, -1], [1, 2, 3, 4],
    [[1]], [(1, 2)], [{}], [0, some_function], [EXAMPLE],
]
# Things that are no prices, rim too.
NO_PRICES = NO_AMOUNTS + [[0], (0, 0), [0, 0, 0]]
# Things that are no prices above 0, of two resources.
NO_PAIRS = NO_PRICES + [(0, 1), [1, 0], (5, -1), (1,), [2], (1, 1, 1), [1, True], (True, 1), (1, None), ("1", 1), (1, (1,))]
# Things that are no kinds.
NO_KINDS = NO_LISTS + ["price", "prices ", "Prices", "around,", "budget", "front", [], (), ["prices"], ("around",),
                       [["budgets"]]]
# Things that are no things of programs.
NO_NAMES = [None, True, 0, 1, [], ["a"], ("a",), {}, some_function, EXAMPLE, "", "A", "aB", "a b", " a", "a\n", "a_b",
            "a" * 25, "\u00e4", "\u00b2", "\u0661", "a,b", "a:"]


def swapped(thing):
    """Lists for tuples and tuples for lists, at every depth (not in keys)."""
    if isinstance(thing, list):
        return tuple(swapped(inner) for inner in thing)
    if isinstance(thing, tuple):
        return [swapped(inner) for inner in thing]
    if isinstance(thing, dict):
        return {key: swapped(worth) for key, worth in thing.items()}
    return thing


def spoil(thing):
    """Change a told list or dict, and what can be changed within it."""
    if isinstance(thing, dict):
        for worth in thing.values():
            spoil(worth)
        thing.clear()
    if isinstance(thing, (list, tuple)):
        for inner in thing:
            spoil(inner)
    if isinstance(thing, list):
        thing.append("spoilt")


class Case(unittest.TestCase):
    """Asks as callers may: by place and by name, with lists and tuples, again and again."""

    def told(self, call, *passed):
        """What a call tells, which must be the same however it is asked, and leave what is passed as it is."""
        before = copy.deepcopy(passed)
        first = call(*passed)
        self.assertEqual(passed, before)
        kept = copy.deepcopy(first)
        names = list(inspect.signature(call).parameters)
        by_name = call(**dict(reversed(list(zip(names, passed)))))
        turned = call(*swapped(passed))
        of_copies = call(*copy.deepcopy(before))
        for again in (by_name, turned, of_copies):
            self.assertEqual(again, kept)
            self.assertIs(type(again), type(kept))
            if " object at " not in repr(kept):
                self.assertEqual(repr(again), repr(kept))
        if isinstance(first, (list, dict)):
            self.assertIsNot(first, by_name)
        if isinstance(first, dict):
            self.assertEqual(list(first), sorted(first))
        spoil(first)
        self.assertEqual(call(*passed), kept)
        self.assertEqual(passed, before)
        return kept

    def tells(self, expected, call, *passed):
        """That a call tells just this, of just these kinds."""
        told = self.told(call, *passed)
        self.assertEqual(told, expected)
        if " object at " not in repr(expected):
            self.assertEqual(repr(told), repr(expected))

    def refuses(self, error, name, kept, call, *passed):
        """That a call raises just this error, which keeps the very object under the name, and changes nothing."""
        before = copy.deepcopy(passed)
        names = list(inspect.signature(call).parameters)
        for ask in (lambda: call(*passed), lambda: call(**dict(zip(names, passed)))):
            with self.assertRaises(error) as caught:
                ask()
            self.assertIs(type(caught.exception), error)
            if name is not None:
                self.assertIs(getattr(caught.exception, name), kept)
        self.assertEqual(passed, before)


# Plain ways, straight from the words of the document, however slow.


def is_under(one, other):
    return one != other and all(number <= limit for number, limit in zip(one, other))


def is_at_most(one, other):
    return all(number <= limit for number, limit in zip(one, other))


def plain_least(rows):
    rows = set(rows)
    return sorted(row for row in rows if not any(is_under(other, row) for other in rows))


def product(one, other):
    return sum(number * factor for number, factor in zip(one, other))


def cross(one, other):
    return (one[1] * other[2] - one[2] * other[1], one[2] * other[0] - one[0] * other[2],
            one[0] * other[1] - one[1] * other[0])


def plain_made(rule, amounts):
    row = []
    for at, word in enumerate(rule[3]):
        if word == "times":
            row.append(rule[2][at] + sum(part[1] * amount[at] for part, amount in zip(rule[1], amounts)))
        elif word == "sum":
            row.append(rule[2][at] + sum(amount[at] for amount in amounts))
        else:
            row.append(max([rule[2][at]] + [part[2][at] + amount[at] for part, amount in zip(rule[1], amounts)]))
    return tuple(row)


def plain_fronts(program):
    """Rounds from no amounts at all, until nothing changes."""
    fronts = {thing: [] for thing in program.things()}
    while True:
        made = {thing: [] for thing in fronts}
        for rule in program.all_rules():
            for amounts in itertools.product(*[fronts[part[0]] for part in rule[1]]):
                made[rule[0]].append(plain_made(rule, amounts))
        further = {thing: plain_least(rows) for thing, rows in made.items()}
        if further == fronts:
            return fronts
        fronts = further


def plain_corners(many, cuts):
    """Rows where many - 1 independent limits are met: by 3.4, fact b."""
    limits = [tuple(cut) for cut in cuts]
    limits += [tuple(-1 if at == place else 0 for at in range(many)) for place in range(many)]
    lines = [(1,)] if many == 1 else []
    if many == 2:
        lines = [(-limit[1], limit[0]) for limit in limits]
    if many == 3:
        lines = [cross(one, other) for one, other in itertools.combinations(limits, 2)]
    found = set()
    for line in lines:
        divisor = gcd(*line)
        for sign in (1, -1):
            if divisor:
                row = tuple(sign * number // divisor for number in line)
                if all(product(row, limit) <= 0 for limit in limits):
                    found.add(row)
    return sorted(found)


def lowest(row):
    divisor = gcd(*row)
    return tuple(number // divisor for number in row)


def plain_piece(amount, amounts):
    """The ascending corners of the prices, rim too, at which none of the amounts costs less."""
    cuts = [[one - other for one, other in zip(amount, row)] for row in set(amounts) if row != tuple(amount)]
    return plain_corners(len(amount), cuts)


def plain_standing(amount, amounts):
    """The pair ("alone", "beside" or "never", prices above 0 that show it or None)."""
    corners = plain_piece(amount, amounts)
    middle = [sum(corner[at] for corner in corners) for at in range(len(amount))]
    if not corners or min(middle) == 0:
        return "never", None
    own = product(amount, middle)
    alone = all(product(other, middle) > own for other in amounts if other != amount)
    return "alone" if alone else "beside", lowest(middle)


def plain_hull(amounts):
    return sorted(amount for amount in set(amounts) if plain_standing(amount, amounts)[0] == "alone")


def parted(sorts, row, word):
    """What a row has in the resources of one sort."""
    return tuple(number for sort, number in zip(sorts, row) if sort == word)


def plain_level(sorts, amounts, bounds):
    rows = {parted(sorts, row, "flat") for row in amounts if is_at_most(parted(sorts, row, "high"), bounds)}
    return plain_hull(rows) if "flat" in sorts else sorted(rows)


def plain_view(sorts, amounts):
    return [row for row in amounts
            if parted(sorts, row, "flat") in plain_level(sorts, amounts, parted(sorts, row, "high"))]


def plain_seen(sorts, amounts, kind):
    if kind == "prices":
        return plain_hull(amounts)
    return plain_view(sorts, amounts) if kind == "around" else amounts


def least_at(amounts, prices):
    """The least cost at prices, None for no amounts."""
    return min([product(amount, prices) for amount in amounts], default=None)


def bare_program(sorts, lists):
    """A program of rules without parts, that have the amounts of lists; a thing with none is a part alone."""
    rules = [(thing, [], amount, ["sum"] * len(sorts)) for thing, amounts in lists.items() for amount in amounts]
    for thing, amounts in lists.items():
        if not amounts:
            rules.append((thing, [(thing, 1, [0] * len(sorts))], [0] * len(sorts), ["sum"] * len(sorts)))
    return Program(sorts, rules)


def some_front(chance, many, length, greatest):
    """A front of amounts at random."""
    return plain_least(tuple(chance.randint(0, greatest) for _ in range(many)) for _ in range(length))


def flat_front(chance, many, length, greatest):
    """A front of amounts on one side, or just off it: many of them are in the hull, beside others, or just never."""
    rows = [[chance.randint(0, greatest) for _ in range(many - 1)] for _ in range(length)]
    return plain_least((*row, 2 * greatest - sum(row) + chance.randint(0, 2)) for row in rows)


def bowl(chance, many, length, great=10 ** 18):
    """Amounts of two or three numbers, up to the great one, that lie on a bowl: all of them are alone."""
    found = set()
    while len(found) < length:
        row = [chance.randint(0, 10 ** 9) for _ in range(many)]
        size = max(1, isqrt(sum(number * number for number in row)))
        found.add(tuple(great - great * number // size for number in row))
    return sorted(found)


def straight_trees(program, thing, above=()):
    """All straight plans of a thing as trees."""
    found = []
    for number, rule in enumerate(program.all_rules()):
        if rule[0] == thing and thing not in above:
            inner = [straight_trees(program, part[0], above + (thing,)) for part in rule[1]]
            found += [(number, below) for below in itertools.product(*inner)]
    return found


def tree_rules(tree):
    """The set of the numbers of the rules of a tree."""
    return {tree[0]}.union(*[tree_rules(inner) for inner in tree[1]])


def tree_of(plan, row=-1):
    return (plan[row][0], tuple(tree_of(plan, below) for below in plan[row][1]))


def tree_amount(program, tree):
    return plain_made(program.all_rules()[tree[0]], [tree_amount(program, inner) for inner in tree[1]])


def tree_counts(program, tree, with_times):
    counts = [0] * len(program)
    counts[tree[0]] = 1
    for inner, part in zip(tree[1], program.all_rules()[tree[0]][1]):
        for number, count in enumerate(tree_counts(program, inner, with_times)):
            counts[number] += count * (part[1] if with_times else 1)
    return counts


def tree_is_straight(program, tree, above=()):
    head = program.all_rules()[tree[0]][0]
    return head not in above and all(tree_is_straight(program, inner, above + (head,)) for inner in tree[1])


def tree_height(tree):
    return 1 + max([tree_height(inner) for inner in tree[1]], default=0)


def tree_with(plan, row, graft, at):
    """The plan as a tree, with another tree wherever this row is."""
    if at == row:
        return graft
    return (plan[at][0], tuple(tree_with(plan, row, graft, below) for below in plan[at][1]))


def trees_up_to(program, height, limit):
    """All plans of all things as trees, no higher than this; None if there are more than the limit."""
    trees = {thing: set() for thing in program.things()}
    for _ in range(height):
        further = {thing: set() for thing in trees}
        for number, rule in enumerate(program.all_rules()):
            many = 1
            for part in rule[1]:
                many *= len(trees[part[0]])
            if many > limit:
                return None
            for inner in itertools.product(*[sorted(trees[part[0]]) for part in rule[1]]):
                further[rule[0]].add((number, inner))
        if sum(len(found) for found in further.values()) > limit:
            return None
        trees = further
    return trees


def some_program(chance, things, rules, greatest):
    """A program with rings, things without plans, parts twice and all words."""
    many = chance.randint(1, 3)
    sorts = [chance.choice(["flat", "high"]) for _ in range(many)]
    names = [f"t{number}" for number in range(things)]
    made = []
    for _ in range(rules):
        how = [chance.choice(["times", "sum", "most"] if sort == "high" else ["times", "sum"]) for sort in sorts]
        parts = [
            (chance.choice(names), chance.randint(1, 3), [chance.randint(0, 2) if w == "most" else 0 for w in how])
            for _ in range(chance.choice([0, 0, 1, 1, 2, 2, 3, 4]))
        ]
        made.append((chance.choice(names), parts, [chance.randint(0, greatest) for _ in sorts], how))
    return Program(sorts, made)


def rich_program(chance, things, further, greatest, rings=True, words=("times", "sum", "most"), many=None):
    """A program in which most things are had by rules without parts, some of them also by further rules."""
    many = many or chance.randint(1, 3)
    sorts = [chance.choice(["flat", "high"]) for _ in range(many)]
    names = [f"t{number}" for number in range(things)]
    heads = [name for name in names for _ in range(chance.choice([0, 1, 1, 2, 3]))]
    heads += [chance.choice(names[not rings:] or names) for _ in range(further)]
    made = []
    for at, head in enumerate(heads):
        how = [chance.choice([word for word in words if sort == "high" or word != "most"]) for sort in sorts]
        leads = names if rings else names[:names.index(head)]
        parts = [
            (chance.choice(leads), chance.randint(1, 2), [chance.randint(0, 2) if w == "most" else 0 for w in how])
            for _ in range(chance.randint(1, 2) if at >= len(heads) - further and leads else 0)
        ]
        made.append((head, parts, [chance.randint(0, greatest) // (2 if parts else 1) for _ in sorts], how))
    return Program(sorts, made)


def some_plan(chance, program, rounds):
    """A plan that rows taken at random leave, None if nothing has a plan."""
    rules = program.all_rules()
    rows, heads = [], []
    for _ in range(rounds):
        fit = [number for number, rule in enumerate(rules) if all(part[0] in heads for part in rule[1])]
        if not fit:
            return None
        number = chance.choice(fit)
        below = [chance.choice([at for at, head in enumerate(heads) if head == part[0]]) for part in rules[number][1]]
        rows.append((number, tuple(below)))
        heads.append(rules[number][0])
    last = chance.randrange(len(rows))
    kept = {last}
    for at in range(last, -1, -1):
        if at in kept:
            kept.update(rows[at][1])
    places = {at: place for place, at in enumerate(sorted(kept))}
    return [(rows[at][0], tuple(places[below] for below in rows[at][1])) for at in sorted(kept)]


def tree_size(plan):
    """How many rows the plan has as a tree."""
    sizes = []
    for _, below in plan:
        sizes.append(1 + sum(sizes[row] for row in below))
    return sizes[-1]


def chance_of(number):
    return random.Random(number)
