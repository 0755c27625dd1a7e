"""Further rules: what they must take to be needless, for budgets and in all surroundings, and where they are of use."""

from anyprice.bests import middle_of, pieces_of_hull
from anyprice.checks import check_kind
from anyprice.costs import least_of_costs
from anyprice.errors import BadHighs, BadRule, BadSketch
from anyprice.kinds import is_amount_of, is_list_of
from anyprice.lookups import coming_to, rules_by_head
from anyprice.makes import joined, raised, spread
from anyprice.programs import as_tuples, is_rule_of
from anyprice.settling import fronts_of, further_fronts
from anyprice.unders import is_at_most, least_of
from anyprice.views import level_of, places_of, rows_within, seen_of, taken


def rule_by(program, sketch, own):
    """The rule, tuples throughout, that a sketch is with an own amount; BadSketch for what is no sketch."""
    sorts = program.own_sorts()
    if not is_list_of(sketch, 3) or not is_rule_of(sorts, (sketch[0], sketch[1], (0,) * len(sorts), sketch[2])):
        raise BadSketch(sketch)
    return as_tuples((sketch[0], sketch[1], own, sketch[2]))


def checked_rule(program, rule):
    """The rule as tuples throughout; BadRule for what is no rule for the program's sorts."""
    if not is_rule_of(program.own_sorts(), rule):
        raise BadRule(0)
    return as_tuples(rule)


def fronts_around(program, rule):
    """The dict from the head of a rule and the things of its parts to their fronts, [] for no things of the program."""
    known = program.things()
    names = [rule[0]] + [part[0] for part in rule[1]]
    fronts = fronts_of(program, sorted({name for name in names if name in known}))
    return {name: fronts.get(name, []) for name in names}


def all_made(rule, fronts):
    """The ascending list of all rows, each once, that a rule makes of front amounts of its parts."""
    rows = [rule[2]]
    for part in rule[1]:
        ways = [raised(part, rule[3], amount) for amount in fronts[part[0]]]
        rows = sorted({joined(rule[3], row, way) for row in rows for way in ways})
    return rows


def least_made(rule, fronts):
    """The ascending list of the rows that a rule makes of front amounts of its parts and no other one is under."""
    rows = [rule[2]]
    for part in rule[1]:
        rows = spread(rule[3], rows, part, fronts[part[0]], [])
    return rows


def least_owns(program, sketch):
    """The ascending list of the least own amounts with which the sketch is needless for budgets.

    For each row that is made with own 0 some amount of the head must be at most what is made with own; rows that
    another one is under ask for no more than this one.
    """
    rule = rule_by(program, sketch, (0,) * len(program.own_sorts()))
    fronts = fronts_around(program, rule)
    owns = [rule[2]]
    for row in least_made(rule, fronts):
        needs = least_of([own_for(rule[3], row, amount) for amount in fronts[rule[0]]])
        enough, short = [], []
        for own in owns:
            if any([is_at_most(need, own) for need in needs]):
                enough.append(own)
            else:
                short.append(own)
        owns = least_of(enough + [greatest(own, need) for own in short for need in needs])
    return owns


def own_for(how, row, amount):
    """The least own with which what was made with own 0 has the amount at most it."""
    return tuple([
        (number if number > had else 0) if word == "most" else max(0, number - had)
        for word, had, number in zip(how, row, amount)
    ])


def greatest(one, other):
    """The row of the greater numbers of both."""
    return tuple([max(number, more) for number, more in zip(one, other)])


def sides_of(program, sketch, highs):
    """The ascending list of (bounds, corner, number) that own flat numbers must cost; None if the head has nothing."""
    sorts = program.own_sorts()
    own = (0,) * len(sorts)
    rule = rule_by(program, sketch, own)
    places = places_of(sorts, "high")
    if not is_amount_of(highs, len(places)):
        raise BadHighs(highs)
    limits = dict(zip(places, highs))
    rule = (rule[0], rule[1], tuple([limits.get(place, 0) for place in range(len(sorts))]), rule[3])
    fronts = fronts_around(program, rule)
    made = all_made(rule, fronts)
    least = least_of(made)
    sides = []
    for bounds in bounds_of(sorts, made):
        rows = level_of(sorts, fronts[rule[0]], bounds)
        if not rows:
            return None
        sides.extend(sides_within(bounds, rows, rows_within(sorts, least, bounds)))
    return sides


def bounds_of(sorts, rows):
    """The ascending list of what rows have in the high resources, each once."""
    places = places_of(sorts, "high")
    return sorted({taken(row, places) for row in rows})


def sides_within(bounds, rows, made):
    """The ascending triples (bounds, corner, number) of these bounds: what the level costs more than what is made."""
    if not rows[0]:
        return []
    pieces = pieces_of_hull(rows)
    corners = sorted({corner for amount in pieces for corner in pieces[amount]})
    return [(bounds, corner, least_of_costs(rows, corner) - least_of_costs(made, corner)) for corner in corners]


def use_of(program, rule):
    """None for a rule that is needless around; else (bounds, prices) within and at which it makes its head cheaper.

    Where a row that another one is under would be of use, the other one is so within its own bounds.
    """
    own = checked_rule(program, rule)
    sorts = program.own_sorts()
    fronts = fronts_around(program, own)
    made = least_made(own, fronts)
    for bounds in bounds_of(sorts, made):
        rows = level_of(sorts, fronts[own[0]], bounds)
        prices = cheaper_at(sorts.count("flat"), rows, rows_within(sorts, made, bounds))
        if prices is not None:
            return bounds, prices
    return None


def cheaper_at(many, rows, made):
    """Prices above 0, of so many resources, at which what is made costs less than the rows, or there are none; or None.

    Where nothing that is made costs less at the corners of the rows' pieces nothing does anywhere.
    """
    if not rows:
        return (1,) * many
    if all([side[2] <= 0 for side in sides_within((), rows, made)]):
        return None
    pieces = pieces_of_hull(rows + made)
    for amount in pieces:
        if amount not in rows:
            return middle_of(pieces[amount])
    return None


def is_needless(program, rule, kind):
    """Whether the rule, put in, changes nothing that is seen of any thing by the kind."""
    own = checked_rule(program, rule)
    check_kind(kind)
    sorts = program.own_sorts()
    further = program.with_rule(len(program), own)
    rules = rules_by_head(further)
    touched = coming_to(rules, own[0])
    old = fronts_of(program, [thing for thing in program.things() if thing in touched])
    new = further_fronts(rules, list(touched), {}, old, own[0])
    for name in touched:
        former = old.get(name, [])
        if new[name] != former and seen_of(sorts, new[name], kind) != seen_of(sorts, former, kind):
            return False
    return True
