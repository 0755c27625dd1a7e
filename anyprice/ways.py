"""How front amounts are made: rules, and amounts of their parts, that make just them; plans put together so."""

from anyprice.lookups import without_one
from anyprice.makes import joined, raised
from anyprice.unders import is_at_most, least_of


def amounts_for(rule, lists, amount):
    """Amounts of the lists, one for each part, of which the rule makes just this one; None if there are none.

    Nothing that is made of the lists is under the amount. So of the rows that come on the way the least are enough:
    what is made with a lesser one is at most the amount, too.
    """
    ways = {rule[2]: ()}
    for part, amounts in zip(rule[1], lists):
        further = {}
        for row, chosen in ways.items():
            for one in amounts:
                fresh = joined(rule[3], row, raised(part, rule[3], one))
                if fresh not in further and is_at_most(fresh, amount):
                    further[fresh] = chosen + (one,)
        ways = {row: further[row] for row in least_of(list(further))}
    return ways.get(amount, None)


def way_to(pairs, fronts, known, pair):
    """The number of a rule of some pairs (number, rule) that makes a pair (thing, amount), and of which known ones.

    None if there is none. The thing is the head of all of the rules.
    """
    _, amount = pair
    for number, rule in pairs:
        names = [part[0] for part in rule[1]]
        lists = [[one for one in fronts[name] if is_at_most(one, amount) and (name, one) in known] for name in names]
        chosen = amounts_for(rule, lists, amount)
        if chosen is not None:
            return number, list(zip(names, chosen))
    return None


def all_ways(rules, settled):
    """The dict, each behind those of which it is made, from all pairs to ways: (number of a rule, list of pairs)."""
    fronts, order = settled
    ways = {}
    for pair in order:
        ways[pair] = way_to(rules[pair[0]], fronts, ways, pair)
    return ways


def ways_without(rules, fronts, ways, number, head):
    """Such a dict for rules without one of this head, with the same fronts; None if these have others.

    Other ways are needed for those of the head's pairs that the rule makes. If what does without the rule already is
    enough for them, all that was made of them still is; else ways are sought for all that does not.
    """
    lean = without_one(rules, number, head)
    known, doubted = {}, []
    for pair, way in ways.items():
        if way[0] == number or any([one not in known for one in way[1]]):
            doubted.append(pair)
        else:
            known[pair] = way
    bare = [pair for pair in doubted if ways[pair][0] == number]
    fresh = {pair: way_to(lean[head], fronts, known, pair) for pair in bare}
    if any([fresh[pair] is None for pair in bare]):
        return ways_anew(lean, fronts, known, doubted)
    for pair in bare:
        known[pair] = fresh[pair]
    for pair in doubted:
        if pair not in fresh:
            known[pair] = ways[pair]
    return known


def ways_anew(rules, fronts, known, doubted):
    """The known ways, and further ones for doubted pairs, each behind those of which it is made; None if one has none.

    What a pair is made of has amounts that are at most its own; so least amounts come first, and one without a way
    ends it, but for those of the same amount, which may be made of one another.
    """
    ways = {pair: known[pair] for pair in known}
    groups = {}
    for pair in doubted:
        groups.setdefault(pair[1], []).append(pair)
    for amount in sorted(groups):
        waiting = groups[amount]
        while waiting:
            left = []
            for pair in waiting:
                way = way_to(rules[pair[0]], fronts, ways, pair)
                if way is None:
                    left.append(pair)
                else:
                    ways[pair] = way
            if len(left) == len(waiting):
                return None
            waiting = left
    return ways


def plan_to(rules, settled, goal):
    """A plan of the pair (thing, amount), by what settled_in tells: the fronts and the order of all pairs.

    It is straight: of a thing below itself the amounts would be one at most the other, both in its front, so they
    would be the same; but each pair has only such below itself as stand ahead of it.
    """
    fronts, order = settled
    ahead = order[:order.index(goal) + 1]
    known = {pair: True for pair in ahead}
    needed = {goal: True}
    found = []
    for pair in reversed(ahead):
        del known[pair]
        if pair in needed:
            number, below = way_to(rules[pair[0]], fronts, known, pair)
            found.append((pair, number, below))
            for one in below:
                needed[one] = True
    rows = {}
    plan = []
    for pair, number, below in reversed(found):
        rows[pair] = len(plan)
        plan.append((number, tuple([rows[one] for one in below])))
    return plan
