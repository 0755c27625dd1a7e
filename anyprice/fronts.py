"""Fronts: the amounts of a thing's plans that no amount of its plans is under."""

from anyprice.kinds import is_amount, is_list_of
from anyprice.lookups import check_thing
from anyprice.settling import fronts_of


def front(program, thing):
    """The ascending list of the amounts in the thing's front."""
    check_thing(program, thing)
    return list(fronts_of(program, [thing])[thing])


def all_fronts(program):
    """The dict from all things to their fronts."""
    things = program.things()
    fronts = fronts_of(program, things)
    return {thing: list(fronts[thing]) for thing in things}


def is_table(program, thing):
    """Whether it is a closed table: there is just one, that of the fronts."""
    if not isinstance(thing, dict):
        return False
    fronts = all_fronts(program)
    if len(thing) != len(fronts):
        return False
    return all([name in thing and are_amounts(thing[name], fronts[name]) for name in fronts])


def are_amounts(thing, amounts):
    """Whether it is a list of just these amounts, in their order."""
    if not is_list_of(thing, len(amounts)):
        return False
    return all([is_amount(row) and tuple(row) == amount for row, amount in zip(thing, amounts)])
