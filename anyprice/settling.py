"""Fronts, ring by ring: of what rules make of amounts of their parts, the least."""

from heapq import heappop, heappush

from anyprice.lookups import leads_of, rings_of, rules_by_head
from anyprice.makes import spread
from anyprice.unders import is_at_most, least_of


def fronts_of(program, things):
    """The dict from the things, and all that they come to by parts, to their fronts."""
    fronts, _ = settled_in(rules_by_head(program), things)
    return fronts


def settled_in(rules, things, limits=None):
    """The fronts by these rules, and the list of all pairs (thing, amount) of them.

    Each amount is what a rule makes of amounts that stand ahead. With limits, a dict from things to rows, only what
    is within the limit of its thing, and is made of such, is told; nothing of other things.
    """
    fronts, order = {}, []
    for ring in rings_of(leads_of(rules), things):
        fresh = settled_ring(ring, rules, fronts, limits)
        for thing in ring:
            fronts[thing] = [amount for name, amount in fresh if name == thing]
        order.extend(fresh)
    return fronts, order


def further_fronts(rules, things, known, former, head, limits=None):
    """The known fronts, and those by these rules of the things and of all that they come to.

    What is known is known with all that it comes to by parts. Former ones are fronts by rules that are the same but
    for those of the head: they still hold for a ring without it, if all that it leads to has the fronts that it had.
    """
    fronts = dict(known)
    leads = leads_of(rules)
    for ring in rings_of(leads, [thing for thing in things if thing not in known]):
        if ring[0] not in known:
            if head in ring or is_turned(ring, leads, fronts, former):
                fresh = settled_ring(ring, rules, fronts, limits)
                for thing in ring:
                    fronts[thing] = [amount for name, amount in fresh if name == thing]
            else:
                for thing in ring:
                    fronts[thing] = former[thing]
    return fronts


def is_turned(ring, leads, fronts, former):
    """Whether some thing of a ring has no former front, or leads to something beside it that has another one now."""
    for thing in ring:
        if thing not in former:
            return True
        for lead in leads[thing]:
            if lead not in ring and fronts[lead] != former[lead]:
                return True
    return False


def settled_ring(ring, rules, fronts, limits):
    """The pairs (thing, amount) of things that lead to one another, the fronts of all else that they lead to told.

    Of all that waits the least amount, as rows compare, is taken again and again. What rules make is at least each
    amount that they make it of, so it is never less as rows compare: nothing that comes later can be under what was
    taken, and nothing is made of amounts that are not in the fronts.
    """
    order = []
    settled = {thing: [] for thing in ring}
    waiting, uses = begun(ring, rules, fronts, limits)
    while waiting:
        amount, thing = heappop(waiting)
        if not has_at_most(settled[thing], amount):
            settled[thing].append(amount)
            order.append((thing, amount))
            for use in uses[thing]:
                for row in made_anew(use, thing, amount, settled):
                    heappush(waiting, (row, use[0]))
    return order


def begun(ring, rules, fronts, limits):
    """What waits at first, as it is made without the ring; and for each thing of the ring its uses.

    A use is (head, how, rows that are made without the ring, parts that are in it, the head's limit).
    """
    waiting = []
    uses = {thing: [] for thing in ring}
    for head in [thing for thing in ring if limits is None or thing in limits]:
        limit = None if limits is None else limits[head]
        first = []
        for rule in sorted([pair[1] for pair in rules[head]], key=how_many_parts):
            inner = [part for part in rule[1] if part[0] in uses]
            rows = made_without(rule, uses, fronts, first, limit)
            if not inner:
                first = least_of(first + rows)
            elif rows:
                for thing in sorted({part[0] for part in inner}):
                    uses[thing].append((head, rule[3], rows, inner, limit))
        for row in first:
            heappush(waiting, (row, head))
    return waiting, uses


def how_many_parts(rule):
    """Rules with fewer parts come first, as what they make can spare much of what others do."""
    return len(rule[1])


def made_without(rule, left_out, fronts, known, limit):
    """What a rule makes of the fronts of those parts that are not left out, but for what is known."""
    if limit is not None and not is_at_most(rule[2], limit):
        return []
    rows = [rule[2]]
    for part in rule[1]:
        if part[0] not in left_out:
            rows = spread(rule[3], rows, part, fronts[part[0]], known, limit)
    return rows


def made_anew(use, thing, amount, settled):
    """What a use makes with a new amount in the place of a part, and all settled ones in those of the others."""
    head, how, rows, inner, limit = use
    found = []
    for place, part in enumerate(inner):
        if part[0] == thing:
            fresh = spread(how, rows, part, [amount], settled[head], limit)
            for other, further in enumerate(inner):
                if other != place:
                    fresh = spread(how, fresh, further, settled[further[0]], settled[head], limit)
            found.extend(fresh)
    return found


def has_at_most(amounts, limit):
    """Whether some amount is at most the limit."""
    for amount in amounts:
        if is_at_most(amount, limit):
            return True
    return False
