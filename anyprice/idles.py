"""Idle rules: those without which the front of their head is the same."""

from anyprice.lookups import leads_of, rings_of, rules_by_head
from anyprice.settling import fronts_of, further_fronts


def idle_rules(program):
    """The ascending list of the numbers of the rules that are idle."""
    rules = rules_by_head(program)
    heads = [rule[0] for rule in program.all_rules()]
    fronts = fronts_of(program, heads)
    return [number for number, head in enumerate(heads) if is_idle(rules, fronts, number, head)]


def lean_rules(program):
    """The ascending list of the numbers of the rules that are left if, from the last one on, idle ones are left out.

    Without an idle rule all fronts are the same.
    """
    rules = rules_by_head(program)
    heads = [rule[0] for rule in program.all_rules()]
    fronts = fronts_of(program, heads)
    left = []
    for number in reversed(range(len(heads))):
        if is_idle(rules, fronts, number, heads[number]):
            rules = without(rules, number, heads[number])
        else:
            left.append(number)
    return list(reversed(left))


def without(rules, number, head):
    """The rules but for the one of this head with this number."""
    lean = dict(rules)
    lean[head] = [pair for pair in rules[head] if pair[0] != number]
    return lean


def is_idle(rules, fronts, number, head):
    """Whether the head has its front without the rule; only what leads back to the head can have another one.

    Of what the head comes to, and what leads back to it, one ring is told last.
    """
    ring = rings_of(leads_of(rules), [head])[-1]
    known = {thing: fronts[thing] for thing in fronts if thing not in ring}
    return further_fronts(without(rules, number, head), [head], known)[head] == fronts[head]
