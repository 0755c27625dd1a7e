"""Idle rules: those without which the front of their head is the same.

Then all fronts are the same, as each use of such a rule can be changed for a plan of its head; and all front amounts
are still made, one behind another, by the rules that are left.
"""

from anyprice.lookups import rules_by_head, without_one
from anyprice.settling import settled_in
from anyprice.ways import all_ways, ways_without


def idle_rules(program):
    """The ascending list of the numbers of the rules that are idle."""
    rules = rules_by_head(program)
    settled = settled_in(rules, program.things())
    ways = all_ways(rules, settled)
    heads = [rule[0] for rule in program.all_rules()]
    return [
        number for number, head in enumerate(heads)
        if ways_without(rules, settled[0], ways, number, head) is not None
    ]


def lean_rules(program):
    """The ascending list of the numbers of the rules that are left if, from the last one on, idle ones are left out."""
    rules = rules_by_head(program)
    settled = settled_in(rules, program.things())
    ways = all_ways(rules, settled)
    left = []
    for number, rule in reversed(list(enumerate(program.all_rules()))):
        further = ways_without(rules, settled[0], ways, number, rule[0])
        if further is None:
            left.append(number)
        else:
            ways = further
            rules = without_one(rules, number, rule[0])
    return list(reversed(left))
