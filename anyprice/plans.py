"""Plans: how things are had whole, row by row; rows of plans are (number of a rule, rows below)."""

from anyprice.errors import BadNumber, BadPlan, UnlikeThings
from anyprice.kinds import is_list, is_list_of, is_number_below
from anyprice.makes import made


def is_step(rules, heads, thing):
    """Whether it is a row of a plan that can stand behind rows with these heads."""
    if not is_list_of(thing, 2) or not is_number_below(thing[0], len(rules)):
        return False
    parts = rules[thing[0]][1]
    if not is_list_of(thing[1], len(parts)):
        return False
    return all([
        is_number_below(row, len(heads)) and heads[row] == part[0]
        for row, part in zip(thing[1], parts)
    ])


def is_plan(program, thing):
    """Whether it is a plan of the program."""
    if not is_list(thing) or len(thing) == 0:
        return False
    rules = program.all_rules()
    heads = []
    used = {}
    for row in thing:
        if not is_step(rules, heads, row):
            return False
        heads.append(rules[row[0]][0])
        for below in row[1]:
            used[below] = True
    return len(used) == len(thing) - 1


def checked_plan(program, plan):
    """The rows of a plan as tuples; BadPlan for any object that is none."""
    if not is_plan(program, plan):
        raise BadPlan(plan)
    return [(number, tuple(below)) for number, below in plan]


def heads_of(program, rows):
    """The list of the things that the rows are plans of."""
    rules = program.all_rules()
    return [rules[row[0]][0] for row in rows]


def plan_thing(program, plan):
    """The thing that the plan is of."""
    return heads_of(program, checked_plan(program, plan))[-1]


def plan_amount(program, plan):
    """The amount of the plan."""
    rules = program.all_rules()
    amounts = []
    for number, below in checked_plan(program, plan):
        amounts.append(made(rules[number], [amounts[row] for row in below]))
    return amounts[-1]


def counted_rules(program, plan, with_times):
    """The list, rule by rule, of how often it is done, each part as often as it is told or once."""
    rows = checked_plan(program, plan)
    rules = program.all_rules()
    counts = [0] * len(rules)
    often = [0] * (len(rows) - 1) + [1]
    for at in reversed(range(len(rows))):
        number, below = rows[at]
        counts[number] += often[at]
        for row, part in zip(below, rules[number][1]):
            often[row] += often[at] * (part[1] if with_times else 1)
    return counts


def done_of(program, plan):
    """The list, rule by rule, of how often it is done."""
    return counted_rules(program, plan, True)


def stood_of(program, plan):
    """The list, rule by rule, of how often it is done, times left out: how often it stands in the plan as a tree."""
    return counted_rules(program, plan, False)


def is_straight(program, plan):
    """Whether on no way down from its last row one thing is the head of two rows."""
    rows = checked_plan(program, plan)
    return stand_ins(rows, heads_of(program, rows))[0] == list(range(len(rows)))


def straightened(program, plan):
    """A straight plan of the same thing that is nowhere more, of rows of the plan.

    Where a row has its own thing somewhere below itself, what is had there is enough, and is no more.
    """
    rows = checked_plan(program, plan)
    standing, straight = stand_ins(rows, heads_of(program, rows))
    return packed(straight, standing[-1])


def stand_ins(rows, heads):
    """For each row the number of the row that stands for it; and all rows, those below being such as stand.

    A row stands for itself if its thing is not below it; else of the rows below that have its thing the first one.
    """
    standing, straight, under = [], [], []
    for at, (number, below) in enumerate(rows):
        inner = [standing[row] for row in below]
        met = {}
        for row in inner:
            for thing, place in under[row].items():
                met[thing] = min(place, met.get(thing, place))
        standing.append(met.get(heads[at], at))
        straight.append((number, tuple(inner)))
        met[heads[at]] = standing[at]
        under.append(met)
    return standing, straight


def packed(rows, last):
    """The plan whose last row is this one, of those rows alone that it comes to, numbered anew."""
    kept = {last: True}
    for at in reversed(range(last + 1)):
        if at in kept:
            for row in rows[at][1]:
                kept[row] = True
    places = {row: place for place, row in enumerate(sorted(kept))}
    return [(rows[row][0], tuple([places[below] for below in rows[row][1]])) for row in places]


def grafted(program, plan, row, other):
    """The plan with another one in the place of a row and of all that is below it alone."""
    rows = checked_plan(program, plan)
    if not is_number_below(row, len(rows)):
        raise BadNumber(row)
    graft = checked_plan(program, other)
    if heads_of(program, rows)[row] != heads_of(program, graft)[-1]:
        raise UnlikeThings()
    many = len(graft)
    places = {at: at + many for at in range(len(rows))}
    places[row] = many - 1
    moved = [(number, tuple([places[at] for at in below])) for number, below in rows]
    return packed(graft + moved, places[len(rows) - 1])
