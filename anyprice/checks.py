"""What several files refuse alike: how many resources, prices, amounts of fronts, kinds, bounds, words."""

from anyprice.errors import BadBounds, BadKind, BadNumber, BadPrices, NoAmount, NotTimes
from anyprice.kinds import is_amount, is_amount_of, is_int, is_prices_above

KINDS = ("prices", "around", "budgets")


def check_many(many):
    """BadNumber for any object that is none of 1, 2, 3."""
    if not is_int(many) or many not in (1, 2, 3):
        raise BadNumber(many)


def check_prices_of(many, prices):
    """BadPrices for what is no row of so many prices above 0."""
    if not is_prices_above(prices, many):
        raise BadPrices(prices)


def check_prices(program, prices):
    """BadPrices for what is no row of prices above 0, one for each resource."""
    check_prices_of(len(program.own_sorts()), prices)


def check_amount(amounts, amount):
    """NoAmount for any object that is none of the amounts, which are tuples."""
    if not is_amount(amount) or tuple(amount) not in amounts:
        raise NoAmount(amount)


def check_kind(kind):
    """BadKind for any object that is no kind of what is seen."""
    if kind not in KINDS:
        raise BadKind(kind)


def check_bounds(program, bounds):
    """BadBounds for what is no row of integers from 0 on, one for each high resource."""
    if not is_amount_of(bounds, program.own_sorts().count("high")):
        raise BadBounds(bounds)


def check_times(program):
    """NotTimes with the first rule that says another word than "times"."""
    for number, rule in enumerate(program.all_rules()):
        if rule[3] != ("times",) * len(rule[3]):
            raise NotTimes(number)
