"""Operator trees as plans: a program by entries, what its rules mean, trees told by plans and plans by trees."""

from anyprice.looks import looked_at, mode_of, parts_of
from anyprice.lookups import rules_by_head
from anyprice.operatorrules import TURNED, goal_of, order_in
from anyprice.programs import Program
from anyprice.settling import settled_in
from anyprice.ways import plan_to


def named(names, thing):
    """The name that a thing of entries has in the program: numbers, so that it hangs on no words."""
    if thing not in names:
        word = "set" if len(thing) == 3 else "both"
        names[thing] = f"code{thing[1]}" if thing[0] == "code" else f"{word}{len(names)}"
    return names[thing]


class OperatorPlans:
    """A program whose plans of a thing are the trees of a question."""

    def __init__(self, asked, sorts, entries):
        self.asked = asked
        self.names = {}
        rules = []
        for thing, parts, own, how, _ in entries:
            inner = [(named(self.names, part), times, extra) for part, times, extra in parts]
            rules.append((named(self.names, thing), inner, own, how))
        self.program = Program(sorts, rules)
        self.goal = named(self.names, goal_of(asked))
        self.meanings = [meaning for _, _, _, _, meaning in entries]
        self.numbers = {}
        for number, parts in enumerate(entries):
            self.numbers[(parts[0], tuple([part[0] for part in parts[1]]), parts[4])] = number
        self.settled = None

    def settle(self):
        """The front of the goal, an ascending list, worked out once."""
        if self.settled is None:
            self.settled = settled_in(rules_by_head(self.program), [self.goal])
        return self.settled[0][self.goal]

    def plan_with(self, amount):
        """A straight plan of the goal with an amount of its front."""
        self.settle()
        return plan_to(rules_by_head(self.program), self.settled, (self.goal, amount))

    def tree_by(self, plan):
        """The tree that a plan of the goal tells."""
        made = []
        for number, below in plan:
            made.append(tree_of_row(self.meanings[number], [made[row] for row in below]))
        return made[-1]

    def codes_by(self, plan):
        """The dict from the numbers of tests to the amounts (cycles, bytes) of their codes that a plan tells."""
        meanings = [self.meanings[number] for number, _ in plan]
        found = {meaning[1]: meaning[2] for meaning in meanings if meaning[0] == "code"}
        return {number: found[number] for number in sorted(found)}

    def plan_by(self, tree):
        """The plan of a tree of the question without tests."""
        rows = []
        thing = self.add_tree(rows, tree)
        self.add_free(rows, thing, thing[2] if self.asked.by is not None else None)
        return rows

    def add_tree(self, rows, tree):
        """Put the rows of a tree behind others; the thing that they make."""
        words, column, done = looked_at(self.asked, tree)
        thing = (words, done, order_in(self.asked, words, column))
        meaning = meaning_of(tree)
        parts = parts_of(tree)
        if len(parts) == 2:
            self.add_pair(rows, tree, thing, meaning)
        elif parts:
            inner = self.add_tree(rows, parts[0])
            order = inner[2] if tree[0] == "step" and thing[2] is not None else None
            self.add_row(rows, thing, [self.add_free(rows, inner, order)], meaning)
        else:
            self.add_row(rows, thing, [], meaning)
        return thing

    def add_free(self, rows, thing, order):
        """Let an order go at the last row, if another one is wanted; the thing that is made then."""
        if thing[2] == order:
            return thing
        bare = (thing[0], thing[1], None)
        rows.append((self.numbers[(bare, (thing,), ("free",))], (len(rows) - 1,)))
        return bare

    def add_row(self, rows, thing, below, meaning):
        """Put a row over the last one, if things are below it."""
        place = len(rows) - 1
        rows.append((self.numbers[(thing, tuple(below), meaning)], (place,) if below else ()))

    def add_pair(self, rows, tree, thing, meaning):
        """Put the rows of an operator over two trees."""
        merges = tree[0] == "merge"
        stays = thing[2] is not None
        keeps = (merges or (stays and tree[0] == "loops"), merges or (stays and tree[0] == "boxes"))
        inner, places = [], []
        for part, keep in zip(parts_of(tree), keeps):
            made = self.add_tree(rows, part)
            inner.append(self.add_free(rows, made, made[2] if keep else None))
            places.append(len(rows) - 1)
        turned = inner[0][0][0] != thing[0][0]
        mode = mode_of(tree)
        if turned:
            inner, places, mode = [inner[1], inner[0]], [places[1], places[0]], TURNED[mode]
        pair = (inner[0], inner[1])
        rows.append((self.numbers[(pair, pair, ("mode", mode))], (places[0], places[1])))
        self.add_row(rows, thing, [pair], (meaning[0], turned) + meaning[1:])


def meaning_of(tree):
    """What the rule of an operator means; whether it is turned is left out."""
    if tree[0] in ("all", "by", "along"):
        return "tree", tuple(tree)
    if tree[0] == "sort":
        return "sort", tuple(tree[2])
    if tree[0] in ("step", "tested"):
        return tree[0], tree[2]
    return (tree[0], tree[4]) if tree[0] == "merge" else (tree[0],)


def tree_of_row(meaning, inner):
    """The tree that a row of a plan tells, by what its rule means and what the rows below it tell."""
    word = meaning[0]
    if word == "tree":
        return meaning[1]
    if word == "free":
        return inner[0]
    if word in ("sort", "step", "tested"):
        return word, inner[0], meaning[1]
    if word == "mode":
        return meaning[1], inner[0], inner[1]
    if word == "code":
        return None
    mode, one, other = inner[0]
    if meaning[1]:
        mode, one, other = TURNED[mode], other, one
    return (word, mode, one, other) + meaning[2:]
