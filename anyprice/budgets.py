"""Budgets and tastes: which front amount is taken within some limits, or by some order."""

from anyprice.checks import check_prices
from anyprice.errors import BadBudget, BadTaste, PlanError
from anyprice.fronts import front
from anyprice.kinds import is_budget, is_list, is_list_of, is_number_below
from anyprice.lookups import check_thing, rules_by_head
from anyprice.products import product_of
from anyprice.programs import Program
from anyprice.settling import settled_in
from anyprice.ways import plan_to


def check_budget(program, budget):
    """BadBudget for what is no row with an integer from 0 on, or None, for each resource."""
    if not is_budget(budget, len(program.own_sorts())):
        raise BadBudget(budget)


def is_within(amount, budget):
    """Whether the amount is at most each integer of the budget."""
    return all([limit is None or number <= limit for number, limit in zip(amount, budget)])


def cheapest_within(program, thing, prices, budget):
    """The front amount within the budget that costs least, of several the first one; None if there is none."""
    check_thing(program, thing)
    check_prices(program, prices)
    check_budget(program, budget)
    amounts = [amount for amount in front(program, thing) if is_within(amount, budget)]
    return first_of_least([product_of(amount, prices) for amount in amounts], amounts)


def first_of_least(numbers, amounts):
    """The first amount with the least of the numbers, None if there is none."""
    if not amounts:
        return None
    return amounts[numbers.index(min(numbers))]


def plan_within(program, thing, budget):
    """A plan of the thing whose amount is within the budget, None if there is none."""
    check_thing(program, thing)
    check_budget(program, budget)
    rules = rules_by_head(program)
    settled = settled_in(rules, [thing])
    for amount in settled[0][thing]:
        if is_within(amount, budget):
            return plan_to(rules, settled, (thing, amount))
    return None


def is_order(program, thing):
    """Whether it is a list of the numbers of all resources, each once."""
    many = len(program.own_sorts())
    if not is_list_of(thing, many) or not all([is_number_below(number, many) for number in thing]):
        return False
    return sorted(thing) == list(range(many))


def check_taste(program, taste):
    """BadTaste for any object that is neither such an order nor a function."""
    if is_list(taste) and not is_order(program, taste):
        raise BadTaste(taste)
    if taste is None or isinstance(taste, (int, str, dict, Program, PlanError)):
        raise BadTaste(taste)


def best_for(program, thing, taste):
    """The front amount that is first by an order of resources, or least by a function; None without plans."""
    check_thing(program, thing)
    check_taste(program, taste)
    amounts = front(program, thing)
    if is_list(taste):
        return first_of_least([[amount[number] for number in taste] for amount in amounts], amounts)
    return first_of_least([taste(amount) for amount in amounts], amounts)
