"""What is looked up in programs: whether there is a thing, its rules, and what things come to by parts."""

from anyprice.errors import NoThing


def check_thing(program, thing):
    """NoThing for any object that is no thing of the program."""
    if thing not in program.things():
        raise NoThing(thing)


def rules_by_head(program):
    """The dict from all things of the program to the lists of (number, rule) whose head they are."""
    found = {thing: [] for thing in program.things()}
    for number, rule in enumerate(program.all_rules()):
        found[rule[0]].append((number, rule))
    return found


def without_one(rules, number, head):
    """The rules by heads but for the one of this head that has this number."""
    lean = dict(rules)
    lean[head] = [pair for pair in rules[head] if pair[0] != number]
    return lean


def leads_of(rules):
    """The dict from the things to the lists of the things of parts of their rules."""
    return {thing: [part[0] for pair in rules[thing] for part in pair[1][1]] for thing in rules}


def finished(leads, start, left_out):
    """What a thing comes to, itself too, but for what is left out: each behind what it leads to, rings aside.

    Each thing waits twice: to be gone on from, and, below all that it leads to, to be done.
    """
    order = []
    met = {}
    waiting = [(start, False)]
    while waiting:
        thing, is_done = waiting.pop()
        if is_done:
            order.append(thing)
        elif thing not in met and thing not in left_out:
            met[thing] = True
            waiting.append((thing, True))
            waiting.extend([(lead, False) for lead in leads[thing]])
    return order


def finished_all(leads, starts):
    """As finished, of several things, each thing once."""
    order = []
    met = {}
    for start in starts:
        fresh = finished(leads, start, met)
        order.extend(fresh)
        for thing in fresh:
            met[thing] = True
    return order


def backs_of(leads):
    """The dict from the things to the lists of those that lead to them."""
    backs = {thing: [] for thing in leads}
    for thing in leads:
        for lead in leads[thing]:
            backs[lead].append(thing)
    return backs


def coming_to(rules, thing):
    """The dict of True from the thing and all that come to it by parts, by these rules."""
    return {name: True for name in finished(backs_of(leads_of(rules)), thing, {})}


def rings_of(leads, starts):
    """All that the things come to, themselves too, as lists of things that lead to one another.

    Each list stands behind those to which its things lead. Why: to the thing that is finished last none leads but
    those of its own ring, so against the leads it comes to these alone; of those that are left it is so again.
    """
    order = finished_all(leads, starts)
    backs = backs_of({thing: leads[thing] for thing in order})
    rings = []
    met = {}
    for thing in reversed(order):
        ring = finished(backs, thing, met)
        if ring:
            rings.append(sorted(ring))
        for other in ring:
            met[other] = True
    return list(reversed(rings))
