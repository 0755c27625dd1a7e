"""Code of trees: rows that do what a plan tells, at just its amount."""

from anyprice.errors import BadAmount, BadPlan
from anyprice.kinds import is_amount_of
from anyprice.layouts import Layout
from anyprice.lookups import rules_by_head
from anyprice.plans import checked_plan, plan_thing
from anyprice.programs import Program
from anyprice.settling import settled_in
from anyprice.treerules import SORTS, WHOLE, nodes_of, tree_rules
from anyprice.trees import checked_number_tree
from anyprice.ways import plan_to


def program_of(pairs):
    """The program of pairs (rule, meaning)."""
    return Program(SORTS, [rule for rule, _ in pairs])


def code_of(machine, tree, plan):
    """Code of a tree that counts just the amount of a plan of the whole tree in a register."""
    whole = checked_number_tree(tree)
    pairs = tree_rules(machine, whole)
    program = program_of(pairs)
    rows = checked_plan(program, plan)
    if plan_thing(program, rows) != WHOLE:
        raise BadPlan(plan)
    return code_by(machine, whole, pairs, rows)


def code_for(machine, tree, amount):
    """Code of a tree that counts just an amount of the front, None for any other amount."""
    whole = checked_number_tree(tree)
    if not is_amount_of(amount, 3):
        raise BadAmount(amount)
    return CodePlans(machine, whole).code_with(tuple(amount))


class CodePlans:
    """The plans of a tree in a register, and the code that they tell."""

    def __init__(self, machine, tree):
        self.machine = machine
        self.tree = tree
        self.pairs = tree_rules(machine, tree)
        self.rules = rules_by_head(program_of(self.pairs))
        self.settled = settled_in(self.rules, [WHOLE] if WHOLE in self.rules else [])

    def amounts(self):
        """The ascending list of the amounts of the front."""
        return list(self.settled[0].get(WHOLE, []))

    def code_with(self, amount):
        """Code with an amount of the front, None for any other one."""
        if amount not in self.amounts():
            return None
        return code_by(self.machine, self.tree, self.pairs, plan_to(self.rules, self.settled, (WHOLE, amount)))


def code_by(machine, tree, pairs, plan):
    """The code that a plan tells, a plan of the rules of pairs (rule, meaning)."""
    instructions = machine.instructions()
    numbers = numbers_by_path(tree)
    words = {}
    nodes = []
    for number, below in plan:
        rule, meaning = pairs[number]
        if meaning[0] == "var":
            words[len(nodes)] = meaning[1]
            nodes.append(None)
        else:
            nodes.append(node_of(instructions[meaning[0]], rule[0], meaning, below, words, numbers))
    return Layout(nodes).put_all(len(nodes) - 1)


def numbers_by_path(tree):
    """The dict from the paths of a tree's numbers to these."""
    nodes = nodes_of(tree)
    return {path: nodes[path][1] for path in nodes if nodes[path][0] == "num"}


def node_of(instruction, head, meaning, below, words, numbers):
    """The node of a row of a plan: operands in memory come first below it, then those in registers as they are made.

    Words are those of variables, by the numbers of their rows, numbers those of the tree, by their paths.
    """
    word, place, _, _ = instruction
    _, leaves, order = meaning
    path = head[1:] if place == "mem" else head[head.index(".") + 1:]
    stored = [at for at, leaf in enumerate(leaves) if leaf[0] == "mem"]
    kept = [at for at, leaf in enumerate(leaves) if leaf[0] == "reg"]
    made = stored + [kept[at] for at in order]
    rows = dict(zip(made, below))
    operands = []
    for at, (leaf, inner) in enumerate(leaves):
        if leaf == "num":
            operands.append((leaf, numbers[path + inner]))
        else:
            operands.append((leaf, words.get(rows[at], rows[at])))
    return word, place, operands, [kept[at] for at in order]
