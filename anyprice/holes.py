"""Holes: things that are not written yet, how often they are used, and programs that fill them.

All but what the holes are is told of programs whose rules say "times" everywhere.
"""

from anyprice.checks import check_times
from anyprice.errors import BadFilling, BadHoles, BadUnits
from anyprice.kinds import MOST_RESOURCES, is_int_from, is_list
from anyprice.likes import parting
from anyprice.lookups import check_thing
from anyprice.products import grown, in_lowest_terms
from anyprice.programs import Program, is_rule_of


def holes(program):
    """The ascending list of the things without rules."""
    heads = {rule[0]: True for rule in program.all_rules()}
    return [thing for thing in program.things() if thing not in heads]


def check_holes(program, names):
    """BadHoles for the first of names that is no hole, stood before, or is one resource too many."""
    if not is_list(names):
        raise BadHoles(0)
    known = holes(program)
    most = MOST_RESOURCES - len(program.own_sorts())
    for index, name in enumerate(names):
        if index >= most or name not in known or name in names[:index]:
            raise BadHoles(index)


def with_uses(program, names):
    """The program with a resource more for each of the holes, of which each use of the hole takes 1."""
    check_times(program)
    check_holes(program, names)
    sorts = program.own_sorts() + ["flat"] * len(names)
    noughts = (0,) * len(names)
    how = ("times",) * len(sorts)
    rules = [
        (head, [(thing, times, extra + noughts) for thing, times, extra in parts], own + noughts, how)
        for head, parts, own, _ in program.all_rules()
    ]
    for name in names:
        used = tuple([1 if other == name else 0 for other in names])
        rules.append((name, (), (0,) * len(program.own_sorts()) + used, how))
    return Program(sorts, rules)


def filled(program, rules):
    """The program with further rules behind its own, whose heads are holes or new things."""
    check_times(program)
    if not is_list(rules):
        raise BadFilling(0)
    sorts = program.own_sorts()
    heads = {rule[0]: True for rule in program.all_rules()}
    for index, rule in enumerate(rules):
        if not is_rule_of(sorts, rule) or rule[0] in heads or tuple(rule[3]) != ("times",) * len(sorts):
            raise BadFilling(index)
    return Program(sorts, program.all_rules() + list(rules))


def in_units(program, units):
    """The program with all own amounts and extras taken units times."""
    check_times(program)
    if not is_int_from(units, 1):
        raise BadUnits(units)
    rules = [
        (head, [(thing, times, grown(extra, units)) for thing, times, extra in parts], grown(own, units), how)
        for head, parts, own, how in program.all_rules()
    ]
    return Program(program.own_sorts(), rules)


def parting_filling(program, one, other, names):
    """None for two things that are alike whatever is put in the holes; else (units, amounts, prices).

    A hole that takes h of the first resource in units of p costs p times h where a unit of this resource costs p; all
    else costs p times what it did. With less of a common divisor in the prices all costs are so many times less.
    """
    check_times(program)
    check_thing(program, one)
    check_thing(program, other)
    prices = parting(with_uses(program, names), one, other, "prices")
    if prices is None:
        return None
    many = len(program.own_sorts())
    amounts = tuple([(number,) + (0,) * (many - 1) for number in prices[many:]])
    return prices[0], amounts, in_lowest_terms(prices[:many])
