"""Levels: what surroundings see of a thing within bounds; what is seen by kinds; and a rule that tops a thing."""

from anyprice.checks import check_bounds, check_kind
from anyprice.errors import BadHead
from anyprice.fronts import front
from anyprice.kinds import is_thing
from anyprice.lookups import check_thing
from anyprice.views import level_of, seen_of, topped_rows


def level(program, thing, bounds):
    """The ascending list of the rows in the flat resources that are the only best within bounds at some prices."""
    check_thing(program, thing)
    check_bounds(program, bounds)
    return level_of(program.own_sorts(), front(program, thing), bounds)


def seen(program, thing, kind):
    """The ascending list of the amounts that are seen of the thing: its hull, its view or its front."""
    check_thing(program, thing)
    check_kind(kind)
    return seen_of(program.own_sorts(), front(program, thing), kind)


def topped(program, head, thing, bounds):
    """The program with one rule more, behind all others: the head is had of the thing, with own bounds."""
    if not is_thing(head) or head in program.things():
        raise BadHead(head)
    check_thing(program, thing)
    check_bounds(program, bounds)
    sorts = program.own_sorts()
    noughts = (0,) * len(sorts)
    own = topped_rows(sorts, [noughts], bounds)[0]
    how = ["most" if sort == "high" else "times" for sort in sorts]
    return program.with_rule(len(program), (head, [(thing, 1, noughts)], own, how))
