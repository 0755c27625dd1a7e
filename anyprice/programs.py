"""Programs: rules by which things are had of other things, and what a rule makes."""

from anyprice.errors import BadAmount, BadAmounts, BadNumber, BadRule, BadSorts
from anyprice.kinds import are_sorts, is_amount_of, is_int_from, is_list, is_list_of, is_number_below, is_thing
from anyprice.makes import made


def is_way(sort, word):
    """Whether a rule can say the word of a resource of this sort."""
    return word in ("times", "sum") or (word == "most" and sort == "high")


def is_part(how, thing):
    """Whether it is a part of a rule that says how, with extra amounts for "most" alone."""
    if not is_list_of(thing, 3):
        return False
    name, times, extra = thing
    if not is_thing(name) or not is_int_from(times, 1) or not is_amount_of(extra, len(how)):
        return False
    return all([word == "most" or more == 0 for word, more in zip(how, extra)])


def is_rule_of(sorts, thing):
    """Whether it is a rule for resources of these sorts."""
    if not is_list_of(thing, 4):
        return False
    head, parts, own, how = thing
    if not is_thing(head) or not is_list(parts) or not is_amount_of(own, len(sorts)) or not is_list_of(how, len(sorts)):
        return False
    return all([is_way(sort, word) for sort, word in zip(sorts, how)]) and all([is_part(how, part) for part in parts])


def is_rule(sorts, thing):
    """Whether it is a rule for resources of these sorts; BadSorts for what are no sorts."""
    if not are_sorts(sorts):
        raise BadSorts(sorts)
    return is_rule_of(sorts, thing)


def as_tuples(rule):
    """The rule as tuples throughout."""
    head, parts, own, how = rule
    return head, tuple([(name, times, tuple(extra)) for name, times, extra in parts]), tuple(own), tuple(how)


class Program:
    """Rules by which things are had, each of other things, at amounts of one to three resources."""

    def __init__(self, sorts, rules):
        if not are_sorts(sorts):
            raise BadSorts(sorts)
        if not is_list(rules):
            raise BadRule(0)
        for index, rule in enumerate(rules):
            if not is_rule_of(sorts, rule):
                raise BadRule(index)
        self._sorts = tuple(sorts)
        self._rules = tuple([as_tuples(rule) for rule in rules])

    def own_sorts(self):
        """The list of the sorts of the resources."""
        return list(self._sorts)

    def all_rules(self):
        """The list of the rules, as tuples throughout."""
        return list(self._rules)

    def things(self):
        """The ascending list of all heads and all things of parts, each once."""
        heads = [rule[0] for rule in self._rules]
        return sorted(set(heads + [part[0] for rule in self._rules for part in rule[1]]))

    def with_rule(self, number, rule):
        """The program with a rule more that gets the number."""
        if not is_number_below(number, len(self._rules) + 1):
            raise BadNumber(number)
        if not is_rule_of(self._sorts, rule):
            raise BadRule(0)
        rules = list(self._rules)
        return Program(self._sorts, rules[:number] + [rule] + rules[number:])

    def without_rule(self, number):
        """The program without the rule of this number."""
        check_number(self, number)
        rules = list(self._rules)
        return Program(self._sorts, rules[:number] + rules[number + 1:])

    def with_own(self, number, own):
        """The program with another own amount in the rule of this number."""
        check_number(self, number)
        if not is_amount_of(own, len(self._sorts)):
            raise BadAmount(own)
        rules = list(self._rules)
        head, parts, _, how = rules[number]
        rules[number] = (head, parts, own, how)
        return Program(self._sorts, rules)

    def __eq__(self, other):
        return isinstance(other, Program) and self._sorts == other._sorts and self._rules == other._rules

    def __len__(self):
        return len(self._rules)


def check_number(program, number):
    """BadNumber for any object that is no number of a rule."""
    if not is_number_below(number, len(program)):
        raise BadNumber(number)


def made_of(program, number, amounts):
    """What the rule of this number makes of amounts for its parts, in order."""
    check_number(program, number)
    if not is_list(amounts):
        raise BadAmounts(0)
    rule = program.all_rules()[number]
    many = len(program.own_sorts())
    for index, amount in enumerate(amounts):
        if index >= len(rule[1]) or not is_amount_of(amount, many):
            raise BadAmounts(index)
    if len(amounts) < len(rule[1]):
        raise BadAmounts(len(amounts))
    return made(rule, amounts)
