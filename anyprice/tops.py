"""Which plans have a front amount: one of them, their last rules, and the rules that are in all of them."""

from anyprice.checks import check_amount
from anyprice.limits import limits_below
from anyprice.lookups import check_thing, rules_by_head, without_one
from anyprice.makes import joined, raised
from anyprice.settling import fronts_of, further_fronts, settled_in
from anyprice.unders import least_of
from anyprice.ways import plan_to


def plan_of(program, thing, amount):
    """A straight plan of the thing with just this amount of its front."""
    check_thing(program, thing)
    rules = rules_by_head(program)
    settled = settled_in(rules, [thing])
    check_amount(settled[0][thing], amount)
    return plan_to(rules, settled, (thing, tuple(amount)))


def tops(program, thing):
    """The dict from the thing's rules to the front amounts that straight plans with them in the last row have."""
    check_thing(program, thing)
    amounts = fronts_of(program, [thing])[thing]
    rules = rules_by_head(program)
    own = rules[thing]
    below = dict(rules)
    below[thing] = []
    fronts, _ = settled_in(below, sorted({part[0] for pair in own for part in pair[1][1]}))
    return {number: made_among(rule, fronts, amounts) for number, rule in own}


def made_among(rule, fronts, amounts):
    """Those of the amounts, a front, that the rule makes of fronts; it makes nothing that is under one of them.

    A row that one of the amounts is under makes none of them: what it makes is at least that amount, and not it.
    """
    rows = [rule[2]]
    for part in rule[1]:
        ways = [raised(part, rule[3], amount) for amount in fronts[part[0]]]
        fresh = {joined(rule[3], row, way): True for row in rows for way in ways}
        rows = [row for row in least_of(list(fresh) + amounts) if row in fresh]
    return [amount for amount in amounts if amount in rows]


def sure_rules(program, thing, amount):
    """The ascending list of the numbers of the rules that are in every plan of the thing with this amount.

    Rules that one plan does without are not; each other one is left out, to see whether the amount is still had.
    """
    check_thing(program, thing)
    rules = rules_by_head(program)
    settled = settled_in(rules, [thing])
    check_amount(settled[0][thing], amount)
    goal = (thing, tuple(amount))
    limits = limits_below(rules, settled[0], goal)
    fronts, _ = settled_in(rules, [thing], limits)
    numbers = sorted({row[0] for row in plan_to(rules, settled, goal)})
    return [number for number in numbers if not is_had_without(rules, fronts, limits, number, goal)]


def is_had_without(rules, fronts, limits, number, goal):
    """Whether the pair (thing, amount) is had without a rule; with it the fronts within limits are these."""
    head = [thing for thing in rules if number in [pair[0] for pair in rules[thing]]][0]
    lean = without_one(rules, number, head)
    return goal[1] in further_fronts(lean, [goal[0]], {}, fronts, head, limits)[goal[0]]
