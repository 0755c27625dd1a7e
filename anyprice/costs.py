"""What plans cost at prices: the least, and the plans that cost it."""

from anyprice.checks import check_prices
from anyprice.fronts import all_fronts, front
from anyprice.lookups import check_thing, rules_by_head
from anyprice.products import product_of
from anyprice.settling import settled_in
from anyprice.ways import plan_to


def least_of_costs(amounts, prices):
    """The least that an amount of a list costs, None if there is none."""
    return min([product_of(amount, prices) for amount in amounts], default=None)


def least_costs(program, prices):
    """The dict from all things to the least costs of their plans, None for a thing without a plan."""
    check_prices(program, prices)
    fronts = all_fronts(program)
    return {thing: least_of_costs(fronts[thing], prices) for thing in fronts}


def least_cost(program, thing, prices):
    """The least cost of the thing's plans, None without plans."""
    check_thing(program, thing)
    check_prices(program, prices)
    return least_of_costs(front(program, thing), prices)


def cheapest_of(amounts, prices):
    """Those of the amounts that cost least."""
    least = least_of_costs(amounts, prices)
    return [amount for amount in amounts if product_of(amount, prices) == least]


def best_amounts(program, thing, prices):
    """The ascending list of all amounts of the thing's plans that cost least."""
    check_thing(program, thing)
    check_prices(program, prices)
    return cheapest_of(front(program, thing), prices)


def best_plan(program, thing, prices):
    """A plan of the thing that costs least, None without plans."""
    check_thing(program, thing)
    check_prices(program, prices)
    rules = rules_by_head(program)
    settled = settled_in(rules, [thing])
    amounts = cheapest_of(settled[0][thing], prices)
    return plan_to(rules, settled, (thing, amounts[0])) if amounts else None
