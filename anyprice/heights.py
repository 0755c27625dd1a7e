"""Whether things have plans, how high the lowest ones are, and how many unlike ones there are."""

from anyprice.errors import BadNumber
from anyprice.kinds import is_int_from
from anyprice.lookups import check_thing, leads_of, rings_of, rules_by_head


def heights(program):
    """The dict from all things to the least rows on the longest way down of a plan, None without a plan."""
    rules = program.all_rules()
    found = {}
    fresh = [rule[0] for rule in rules if not rule[1]]
    height = 1
    while fresh:
        for head in fresh:
            found[head] = height
        height = height + 1
        fresh = [rule[0] for rule in rules if rule[0] not in found and all([part[0] in found for part in rule[1]])]
    return {thing: found.get(thing, None) for thing in program.things()}


def how_many(program, thing, most):
    """The number of unlike plans of the thing, as trees, None if there are more than most.

    Of rules all of whose parts have plans each one is in some plan of its head: so where such a rule leads back
    to its head there are endlessly many.
    """
    check_thing(program, thing)
    if not is_int_from(most, 0):
        raise BadNumber(most)
    useful = useful_rules(program)
    leads = leads_of(useful)
    counted = {}
    for ring in rings_of(leads, [thing]):
        name = ring[0]
        if len(ring) > 1 or name in leads[name]:
            return None
        counted[name] = counted_of(useful[name], counted, most + 1)
    return counted[thing] if counted[thing] <= most else None


def useful_rules(program):
    """The dict from all things to the lists of (number, rule) with their rules all of whose parts have plans."""
    found = heights(program)
    rules = rules_by_head(program)
    return {
        thing: [pair for pair in rules[thing] if all([found[part[0]] is not None for part in pair[1][1]])]
        for thing in rules
    }


def counted_of(pairs, counted, limit):
    """How many plans rules have, but no more than the limit: each part has one at least, so no less comes of it."""
    total = 0
    for _, rule in pairs:
        ways = 1
        for part in rule[1]:
            ways = min(limit, ways * counted[part[0]])
        total = min(limit, total + ways)
    return total
