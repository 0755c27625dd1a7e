"""Whether a thing never is dearer than another one: papers that show it, and what shows that it is."""

from anyprice.bests import middle_of, piece_of
from anyprice.kinds import is_amount_of
from anyprice.likes import both_fronts
from anyprice.mixes import is_mix, mix_for
from anyprice.products import mixed
from anyprice.unders import is_at_most
from anyprice.views import places_of, seen_of, taken, topped_rows


def mixed_places(sorts, kind):
    """The numbers of the resources in which amounts can be mixed: in all others each one is at most the amount."""
    if kind == "prices":
        return list(range(len(sorts)))
    return places_of(sorts, "flat") if kind == "around" else []


def other_places(sorts, places):
    """The numbers of all other resources."""
    return [place for place in range(len(sorts)) if place not in places]


def mix_below(sorts, kind, amounts, amount):
    """A mix of few of the amounts that stands under the amount by the kind, None if there is none."""
    places = mixed_places(sorts, kind)
    others = other_places(sorts, places)
    within = [one for one in amounts if is_at_most(taken(one, others), taken(amount, others))]
    if not within:
        return None
    goal = taken(amount, places)
    bearers = {taken(one, places): one for one in reversed(within)}
    mix = {goal: 1} if goal in bearers else mix_for(goal, list(bearers))
    if mix is None:
        return None
    weights = {bearers[row]: mix[row] for row in mix}
    return {one: weights[one] for one in sorted(weights)}


def stands_under(sorts, kind, mix, amount):
    """Whether a mix stands under the amount by the kind."""
    places = mixed_places(sorts, kind)
    others = other_places(sorts, places)
    if kind == "budgets" and len(mix) > 1:
        return False
    if not all([is_at_most(taken(one, others), taken(amount, others)) for one in mix]):
        return False
    rest = (0,) * len(places)
    for one, weight in mix.items():
        rest = mixed(rest, 1, mixed(taken(amount, places), 1, taken(one, places), -1), weight)
    return all([number >= 0 for number in rest])


def seen_of_both(program, one, other, kind):
    """What is seen of two things by the kind; NoThing for what is none, BadKind for what is no kind."""
    sorts = program.own_sorts()
    ones, others = both_fronts(program, one, other, kind)
    return seen_of(sorts, ones, kind), seen_of(sorts, others, kind)


def mixes_below(sorts, kind, ones, others):
    """The dict from amounts of others to mixes of amounts of ones that stand under them, None where there is none."""
    return {amount: mix_below(sorts, kind, ones, amount) for amount in others}


def paper_for(program, one, other, kind):
    """The dict from what is seen of other to mixes of what is seen of one that stand under it, None without one."""
    ones, others = seen_of_both(program, one, other, kind)
    paper = mixes_below(program.own_sorts(), kind, ones, others)
    return None if any([paper[amount] is None for amount in others]) else paper


def is_paper(program, one, other, kind, thing):
    """Whether it is such a dict, in any order, with mixes of any length."""
    ones, others = seen_of_both(program, one, other, kind)
    if not isinstance(thing, dict) or len(thing) != len(others):
        return False
    sorts = program.own_sorts()
    listed = {amount: True for amount in ones}
    for amount in thing:
        if not is_amount_of(amount, len(sorts)) or amount not in others:
            return False
        mix = thing[amount]
        if not is_mix(mix) or not all([part in listed for part in mix]):
            return False
        if not stands_under(sorts, kind, mix, amount):
            return False
    return True


def never_dearer(program, one, other, kind):
    """Whether there is a paper for it that one never is dearer than other."""
    return paper_for(program, one, other, kind) is not None


def dearer_at(program, one, other, kind):
    """None if one never is dearer; else prices, (bounds, prices) or an amount at which it is."""
    ones, others = seen_of_both(program, one, other, kind)
    sorts = program.own_sorts()
    paper = mixes_below(sorts, kind, ones, others)
    bare = [amount for amount in others if paper[amount] is None]
    if not bare:
        return None
    if kind == "prices":
        return middle_of(piece_of(bare[0], ones))
    if kind == "around":
        highs = places_of(sorts, "high")
        bounds, amount = min([(taken(amount, highs), amount) for amount in bare])
        return bounds, middle_of(piece_of(amount, topped_rows(sorts, ones, bounds)))
    return bare[0]
