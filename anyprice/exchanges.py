"""Parts exchanged for other things, and what a thing comes to by parts."""

from anyprice.errors import BadPlace
from anyprice.kinds import is_number_below
from anyprice.lookups import check_thing, finished, leads_of, rules_by_head
from anyprice.programs import Program, check_number


def exchanged(program, number, place, thing):
    """The program with the thing in the place of that of a rule's part."""
    check_number(program, number)
    rules = program.all_rules()
    head, parts, own, how = rules[number]
    if not is_number_below(place, len(parts)):
        raise BadPlace(place)
    check_thing(program, thing)
    _, times, extra = parts[place]
    rules[number] = (head, parts[:place] + ((thing, times, extra),) + parts[place + 1:], own, how)
    return Program(program.own_sorts(), rules)


def reached(program, thing):
    """The ascending list of the thing, the things of parts of its rules, those of their rules, and so on."""
    check_thing(program, thing)
    return sorted(finished(leads_of(rules_by_head(program)), thing, {}))
