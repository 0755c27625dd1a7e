"""How much of each resource things can take at most beneath a plan that is within a limit."""

from anyprice.lookups import leads_of, rings_of
from anyprice.makes import made
from anyprice.unders import is_at_most


def limits_below(rules, fronts, goal):
    """The dict from the goal's thing, and what can be beneath it, to rows that no amount there is beyond.

    The goal is a pair (thing, limit), what is told of fronts is that of all that the thing comes to. A thing takes
    most where all that is beside it takes least. Heads come first; in a ring nothing takes more the next time round,
    so there is an end.
    """
    lows = {thing: least_numbers(fronts[thing]) for thing in fronts if fronts[thing]}
    limits = {goal[0]: goal[1]}
    for ring in reversed(rings_of(leads_of(rules), [goal[0]])):
        waiting = [thing for thing in ring if thing in limits]
        while waiting:
            turned = {}
            for head in waiting:
                found = limits_by(rules[head], lows, limits[head])
                for name, limit in found:
                    known = limits.get(name, limit)
                    if name not in limits or not is_at_most(limit, known):
                        limits[name] = tuple([max(one, other) for one, other in zip(known, limit)])
                        turned[name] = True
            waiting = [thing for thing in ring if thing in turned]
    return limits


def least_numbers(amounts):
    """The row of the least number that some amount has, place by place."""
    return tuple([min(column) for column in zip(*amounts)])


def limits_by(pairs, lows, limit):
    """The list of (thing, limit) for the parts of rules that can make something that is at most the limit."""
    found = []
    for _, rule in pairs:
        if all([part[0] in lows for part in rule[1]]):
            least = made(rule, [lows[part[0]] for part in rule[1]])
            if is_at_most(least, limit):
                for part in rule[1]:
                    found.append((part[0], limit_of_part(rule[3], part, lows[part[0]], least, limit)))
    return found


def limit_of_part(how, part, low, least, limit):
    """How much a part can take if the rule makes the least where all parts take what is low."""
    row = []
    for place, word in enumerate(how):
        if word == "most":
            row.append(limit[place] - part[2][place])
        else:
            often = part[1] if word == "times" else 1
            row.append(low[place] + (limit[place] - least[place]) // often)
    return tuple(row)
