"""Whether two things are alike to prices, to surroundings, to budgets; and what parts them if they are not."""

from anyprice.bests import middle_of, pieces_of_hull
from anyprice.checks import check_kind
from anyprice.lookups import check_thing
from anyprice.settling import fronts_of
from anyprice.views import places_of, seen_of, taken, topped_rows


def both_fronts(program, one, other, kind):
    """The fronts of two things; NoThing for what is none, BadKind for what is no kind."""
    check_thing(program, one)
    check_thing(program, other)
    check_kind(kind)
    fronts = fronts_of(program, [one, other])
    return fronts[one], fronts[other]


def in_one_alone(ones, others):
    """The ascending list of the amounts that are in just one of both lists."""
    return sorted(set(ones) ^ set(others))


def alike(program, one, other, kind):
    """Whether the same is seen of both by the kind."""
    ones, others = both_fronts(program, one, other, kind)
    sorts = program.own_sorts()
    return seen_of(sorts, ones, kind) == seen_of(sorts, others, kind)


def parting(program, one, other, kind):
    """None for things that are alike; else prices, (bounds, prices) or a row of amounts that tell them apart."""
    ones, others = both_fronts(program, one, other, kind)
    sorts = program.own_sorts()
    lone = in_one_alone(seen_of(sorts, ones, kind), seen_of(sorts, others, kind))
    if not lone:
        return None
    if kind == "prices":
        return prices_apart(ones, others)
    if kind == "around":
        highs = places_of(sorts, "high")
        bounds = min([taken(amount, highs) for amount in lone])
        return bounds, prices_apart(topped_rows(sorts, ones, bounds), topped_rows(sorts, others, bounds))
    return lone[0]


def prices_apart(ones, others):
    """Prices above 0 at which two lists have unlike least costs, which they have somewhere.

    Of what is the only best of both lists together something is in one of them alone, else each would cost what
    both cost together. At the inside of its piece the other list costs more, or has nothing.
    """
    pieces = pieces_of_hull(ones + others)
    for amount in in_one_alone(ones, others):
        if amount in pieces:
            return middle_of(pieces[amount])
    return None
