"""The rules of a tree on a machine, and what they mean: how the worths of its nodes come into memory and registers.

A PLACE here is ("mem", 0, path) or ("reg", number of registers that are held meanwhile, path). A meaning is ("var",
word), or (number of an instruction, leaves of its pattern, order of its leaves in registers).
"""

from itertools import permutations

from anyprice.patterns import fits, leaves_of

SORTS = ("flat", "flat", "high")
HOW = ("times", "sum", "most")
NOUGHTS = (0, 0, 0)
WHOLE = "r0."


def thing_at(place):
    """The thing of a place."""
    kind, held, path = place
    return "m" + path if kind == "mem" else f"r{held}.{path}"


def nodes_of(tree, path=""):
    """The dict from the paths of a tree's nodes to the trees there."""
    nodes = {path: tree}
    if len(tree) == 3:
        nodes.update(nodes_of(tree[1], path + "0"))
        nodes.update(nodes_of(tree[2], path + "1"))
    return nodes


def tree_rules(machine, tree):
    """The list of the pairs (rule, meaning) of all that the whole tree in a register comes to, things ascending."""
    nodes = nodes_of(tree)
    leaves = [leaves_of(row[2]) for row in machine.instructions()]
    found = {}
    waiting = [("reg", 0, "")]
    while waiting:
        place = waiting.pop()
        if thing_at(place) not in found:
            rows = ways_into(machine.instructions(), leaves, nodes[place[2]], place)
            found[thing_at(place)] = [(rule, meaning) for rule, meaning, _ in rows]
            for _, _, leads in rows:
                waiting.extend(leads)
    return [pair for thing in sorted(found) for pair in found[thing]]


def ways_into(instructions, leaves, tree, place):
    """The triples (rule, meaning, places of its parts) by which a tree comes into a place."""
    kind, held, path = place
    found = []
    if kind == "mem" and tree[0] == "var":
        found.append(((thing_at(place), (), NOUGHTS, HOW), ("var", tree[1]), []))
    for number, (_, target, pattern, amount) in enumerate(instructions):
        if target == kind and fits(pattern, tree):
            stored = [("mem", 0, path + inner) for leaf, inner in leaves[number] if leaf == "mem"]
            kept = [path + inner for leaf, inner in leaves[number] if leaf == "reg"]
            needed = held + len(kept)
            if kind == "reg":
                needed = max(needed, held + 1)
            for order in permutations(range(len(kept))):
                leads = stored + [("reg", held + at, kept[leaf]) for at, leaf in enumerate(order)]
                parts = tuple([(thing_at(lead), 1, NOUGHTS) for lead in leads])
                rule = (thing_at(place), parts, tuple(amount) + (needed,), HOW)
                found.append((rule, (number, leaves[number], order), leads))
    return found
