"""Potentials: what shows that no plan costs less, where all rules say "times"."""

from anyprice.checks import check_prices, check_times
from anyprice.costs import least_costs
from anyprice.kinds import is_int
from anyprice.products import product_of


def cost_by(rule, prices, worths):
    """The cost of the rule's own amount and, added, times as much as each part's worth; None if one has None."""
    total = product_of(rule[2], prices)
    for name, times, _ in rule[1]:
        if worths[name] is None:
            return None
        total = total + times * worths[name]
    return total


def are_potentials(program, prices, thing):
    """Whether it is a dict from just all things to integers, or None, that no rule brings below them."""
    check_times(program)
    check_prices(program, prices)
    names = program.things()
    if not isinstance(thing, dict) or len(thing) != len(names):
        return False
    if not all([name in thing and (thing[name] is None or is_int(thing[name])) for name in names]):
        return False
    for rule in program.all_rules():
        limit = cost_by(rule, prices, thing)
        if limit is not None and (thing[rule[0]] is None or thing[rule[0]] > limit):
            return False
    return True


def tight_rules(program, prices):
    """The ascending list of the numbers of the rules by which the least costs of their heads come about."""
    check_times(program)
    costs = least_costs(program, prices)
    found = []
    for number, rule in enumerate(program.all_rules()):
        total = cost_by(rule, prices, costs)
        if total is not None and total == costs[rule[0]]:
            found.append(number)
    return found
