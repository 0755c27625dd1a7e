"""How front amounts are made: rules, and amounts of their parts, that make just them; plans put together so."""

from anyprice.makes import joined, raised
from anyprice.unders import is_at_most, least_of


def amounts_for(rule, lists, amount):
    """Amounts of the lists, one for each part, of which the rule makes just this one; None if there are none.

    Nothing that is made of the lists is under the amount. So of the rows that come on the way the least are enough:
    what is made with a lesser one is at most the amount, too.
    """
    ways = {rule[2]: ()}
    for part, amounts in zip(rule[1], lists):
        further = {}
        for row, chosen in ways.items():
            for one in amounts:
                fresh = joined(rule[3], row, raised(part, rule[3], one))
                if fresh not in further and is_at_most(fresh, amount):
                    further[fresh] = chosen + (one,)
        ways = {row: further[row] for row in least_of(list(further))}
    return ways.get(amount, None)


def way_to(rules, fronts, places, pair):
    """The number of a rule that makes the pair (thing, amount) of pairs with lesser places, and the list of these."""
    thing, amount = pair
    for number, rule in rules[thing]:
        names = [part[0] for part in rule[1]]
        lists = [
            [one for one in fronts[name] if is_at_most(one, amount) and places[(name, one)] < places[pair]]
            for name in names
        ]
        chosen = amounts_for(rule, lists, amount)
        if chosen is not None:
            return number, list(zip(names, chosen))
    return None


def plan_to(rules, settled, goal):
    """A plan of the pair (thing, amount), by what settled_in tells: the fronts and the order of all pairs.

    It is straight: of a thing below itself the amounts would be one at most the other, both in its front, so they
    would be the same; but each pair has only such below itself as stand ahead of it.
    """
    fronts, order = settled
    places = {pair: place for place, pair in enumerate(order)}
    needed = {goal: True}
    found = []
    for pair in reversed(order[:places[goal] + 1]):
        if pair in needed:
            number, below = way_to(rules, fronts, places, pair)
            found.append((pair, number, below))
            for one in below:
                needed[one] = True
    rows = {}
    plan = []
    for pair, number, below in reversed(found):
        rows[pair] = len(plan)
        plan.append((number, tuple([rows[one] for one in below])))
    return plan
