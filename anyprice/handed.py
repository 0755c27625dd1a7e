"""A thing's front handed on: rules by which another name is had just as it is."""

from anyprice.errors import BadThing
from anyprice.fronts import front
from anyprice.kinds import is_thing


def front_rules(program, thing, name):
    """The list of the rules that have the name without parts, one for each amount of the thing's front."""
    amounts = front(program, thing)
    if not is_thing(name):
        raise BadThing(name)
    how = ("sum",) * len(program.own_sorts())
    return [(name, (), amount, how) for amount in amounts]
