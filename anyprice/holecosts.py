"""What a thing costs as a hole, or a rule, gets dearer: the lowest of finitely many lines."""

from heapq import heappop, heappush

from anyprice.checks import check_prices, check_times
from anyprice.errors import BadHole
from anyprice.holes import holes
from anyprice.lookups import check_thing
from anyprice.products import in_lowest_terms, mixed, product_of
from anyprice.programs import check_number


def costs_by_hole(program, thing, hole, prices):
    """The list of (from, cost, uses): from this cost of the hole on the thing costs cost + uses times as much."""
    check_times(program)
    check_thing(program, thing)
    if hole not in holes(program):
        raise BadHole(hole)
    check_prices(program, prices)
    rules = program.all_rules()
    lines = [(product_of(rule[2], prices), 0) for rule in rules]
    return lowest_lines(rules + [(hole, (), (), ())], lines + [(0, 1)], thing)


def costs_by_rule(program, thing, number, prices):
    """The list of (from, cost, uses): as the rule costs more each time, the thing costs cost + uses times that."""
    check_times(program)
    check_thing(program, thing)
    check_number(program, number)
    check_prices(program, prices)
    rules = program.all_rules()
    lines = [(product_of(rule[2], prices), 1 if at == number else 0) for at, rule in enumerate(rules)]
    return lowest_lines(rules, lines, thing)


def lowest_lines(rules, lines, thing):
    """The triples (from, cost, uses) of the lines that are lowest for a while, rules having these lines of their own.

    Between two of them either just these two are lowest where they meet, or some line is lower there, and then one
    that is lowest for a while, too.
    """
    first = lowest_line(rules, lines, thing, 1, 0)
    if first is None:
        return []
    last = lowest_line(rules, lines, thing, 0, 1)
    ahead = [last] if last != first else []
    told = [((0, 1), first[0], first[1])]
    while ahead:
        _, cost, uses = told[-1]
        more, fewer = ahead[-1]
        crossing = in_lowest_terms((more - cost, uses - fewer))
        line = lowest_line(rules, lines, thing, crossing[1], crossing[0])
        if product_of(line, (crossing[1], crossing[0])) == product_of((cost, uses), (crossing[1], crossing[0])):
            told.append((crossing, more, fewer))
            ahead.pop()
        else:
            ahead.append(line)
    return told


def lowest_line(rules, lines, thing, by_cost, by_use):
    """The line (cost, uses) of a plan that is least by these weights, of several the one with least uses; or None."""
    rows = [(by_cost * cost + by_use * uses, uses, cost) for cost, uses in lines]
    least = least_sums(rules, rows).get(thing, None)
    return None if least is None else (least[2], least[1])


def least_sums(rules, rows):
    """The dict from things with plans to the least, as rows compare, of what the rows of their plans add up to.

    What a rule makes is at least, as rows compare, what it is made of; so what is least of all that waits stays so.
    """
    users = {}
    lacking = []
    waiting = []
    for number, rule in enumerate(rules):
        names = sorted({part[0] for part in rule[1]})
        lacking.append(len(names))
        for name in names:
            users.setdefault(name, []).append(number)
        if not names:
            heappush(waiting, (rows[number], rule[0]))
    sums = {}
    while waiting:
        row, thing = heappop(waiting)
        if thing not in sums:
            sums[thing] = row
            for number in users.get(thing, []):
                lacking[number] -= 1
                if lacking[number] == 0:
                    heappush(waiting, (made_up(rules[number], rows[number], sums), rules[number][0]))
    return sums


def made_up(rule, row, sums):
    """The row and, added, times as much as each part's sum."""
    for name, times, _ in rule[1]:
        row = mixed(row, 1, sums[name], times)
    return row
