"""Grammars: rules by which texts are read, also such as have faults."""

from anyprice.errors import BadRule, BadSorts
from anyprice.kinds import are_sorts, is_amount_of, is_list, is_list_of
from anyprice.refusals import BadFaults, BadSigns, NoName
from anyprice.words import is_word

SIGNS = "abcdefghijklmnopqrstuvwxyz0123456789"


def is_sign(thing):
    """Whether it is a string of one sign."""
    return isinstance(thing, str) and len(thing) == 1 and thing in SIGNS


def are_signs(thing):
    """Whether it is a string of signs, perhaps of none."""
    return isinstance(thing, str) and all([sign in SIGNS for sign in thing])


def is_right_part(thing):
    """Whether it is ("sign", sign) or ("name", name)."""
    if not is_list_of(thing, 2):
        return False
    word, inner = thing
    return (word == "sign" and is_sign(inner)) or (word == "name" and is_word(inner))


def is_grammar_rule(sorts, thing):
    """Whether it is (name, right, own, rise) for resources of these sorts."""
    if not is_list_of(thing, 4):
        return False
    name, right, own, rise = thing
    if not is_word(name) or not is_list(right) or not all([is_right_part(part) for part in right]):
        return False
    return is_amount_of(own, len(sorts)) and is_amount_without(sorts, "flat", rise)


def is_amount_without(sorts, word, thing):
    """Whether it is an amount that is 0 at all resources of one sort."""
    if not is_amount_of(thing, len(sorts)):
        return False
    return all([number == 0 for sort, number in zip(sorts, thing) if sort == word])


def are_faults(sorts, thing):
    """Whether it is a triple of amounts, 0 at high resources, or None each."""
    if not is_list_of(thing, 3):
        return False
    return all([fault is None or is_amount_without(sorts, "high", fault) for fault in thing])


class Grammar:
    """Rules by which names stand for texts, and what faults take that are let."""

    def __init__(self, sorts, rules, faults):
        if not are_sorts(sorts):
            raise BadSorts(sorts)
        if not is_list(rules):
            raise BadRule(0)
        for index, rule in enumerate(rules):
            if not is_grammar_rule(sorts, rule):
                raise BadRule(index)
        if not are_faults(sorts, faults):
            raise BadFaults(faults)
        self._sorts = tuple(sorts)
        self._rules = tuple([
            (name, tuple([tuple(part) for part in right]), tuple(own), tuple(rise))
            for name, right, own, rise in rules
        ])
        self._faults = tuple([None if fault is None else tuple(fault) for fault in faults])

    def own_sorts(self):
        """The list of the sorts of the resources."""
        return list(self._sorts)

    def all_rules(self):
        """The list of the rules, tuples throughout."""
        return list(self._rules)

    def own_faults(self):
        """The triple (lacks, more, other) of what faults take, None for such as are not let."""
        return self._faults

    def __eq__(self, other):
        if not isinstance(other, Grammar):
            return False
        return self._sorts == other._sorts and self._rules == other._rules and self._faults == other._faults


def check_text(grammar, name, text):
    """NoName for any object that is no name of the grammar, BadSigns for what is no string of signs."""
    names = {}
    for head, right, _, _ in grammar.all_rules():
        names[head] = True
        for word, inner in right:
            if word == "name":
                names[inner] = True
    if not is_word(name) or name not in names:
        raise NoName(name)
    if not are_signs(text):
        raise BadSigns(text)
