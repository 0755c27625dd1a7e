"""Parses: how a text is read by a grammar, its faults mended."""

from anyprice.grammars import are_signs, check_text
from anyprice.kinds import is_list_of, is_number_below
from anyprice.products import grown, mixed
from anyprice.refusals import BadParse


def is_leaf(faults, sign, thing):
    """Whether it is a pair (ahead, got) for a sign, with such faults alone as are let."""
    if not is_list_of(thing, 2) or not are_signs(thing[0]) or not are_signs(thing[1]):
        return False
    ahead, got = thing
    lacks, more, other = faults
    if ahead and more is None:
        return False
    if got == "":
        return lacks is not None
    return got == sign or (len(got) == 1 and other is not None)


def is_tree_of(grammar, name, thing):
    """Whether it is a tree of a name."""
    rules = grammar.all_rules()
    if not is_list_of(thing, 2) or not is_number_below(thing[0], len(rules)):
        return False
    head, right, _, _ = rules[thing[0]]
    if head != name or not is_list_of(thing[1], len(right)):
        return False
    faults = grammar.own_faults()
    return all([
        is_leaf(faults, part[1], inner) if part[0] == "sign" else is_tree_of(grammar, part[1], inner)
        for part, inner in zip(right, thing[1])
    ])


def is_parse_of(grammar, name, thing):
    """Whether it is a parse of a name, of whatever text."""
    if not is_list_of(thing, 2) or not is_tree_of(grammar, name, thing[0]) or not are_signs(thing[1]):
        return False
    return thing[1] == "" or grammar.own_faults()[1] is not None


def is_parse(grammar, name, text, thing):
    """Whether it is a parse of a name with this text."""
    check_text(grammar, name, text)
    return is_parse_of(grammar, name, thing) and text_of(grammar, thing) == text


def check_parse(grammar, parse):
    """BadParse for any object that is a parse of no name."""
    rules = grammar.all_rules()
    tree = parse[0] if is_list_of(parse, 2) else None
    if not is_list_of(tree, 2) or not is_number_below(tree[0], len(rules)):
        raise BadParse(parse)
    if not is_parse_of(grammar, rules[tree[0]][0], parse):
        raise BadParse(parse)


def leaves_of(rules, tree):
    """The list of the pairs (sign, leaf) of a tree, in order."""
    found = []
    for part, inner in zip(rules[tree[0]][1], tree[1]):
        if part[0] == "sign":
            found.append((part[1], inner))
        else:
            found.extend(leaves_of(rules, inner))
    return found


def text_of(grammar, parse):
    """The text of a parse, which was checked."""
    leaves = leaves_of(grammar.all_rules(), parse[0])
    return "".join([leaf[0] + leaf[1] for _, leaf in leaves]) + parse[1]


def parse_text(grammar, parse):
    """The text of a parse."""
    check_parse(grammar, parse)
    return text_of(grammar, parse)


def mended(grammar, parse):
    """The signs that the leaves of a parse ought to be."""
    check_parse(grammar, parse)
    return "".join([sign for sign, _ in leaves_of(grammar.all_rules(), parse[0])])


def parse_amount(grammar, parse):
    """The amount of a parse."""
    check_parse(grammar, parse)
    return added_faults(tree_amount_of(grammar, parse[0]), grammar.own_faults()[1], len(parse[1]))


def added_faults(amount, fault, often):
    """The amount with a fault so often; it is let if it comes at all."""
    return mixed(amount, 1, fault, often) if often else amount


def leaf_amount(faults, sign, leaf, noughts):
    """What the faults of a leaf take."""
    lacks, more, other = faults
    ahead, got = leaf
    amount = added_faults(noughts, more, len(ahead))
    if got == "":
        return added_faults(amount, lacks, 1)
    return amount if got == sign else added_faults(amount, other, 1)


def tree_amount_of(grammar, tree):
    """The amount of a tree: at flat resources all added, at high ones the greatest, inner ones raised."""
    sorts = grammar.own_sorts()
    _, right, own, rise = grammar.all_rules()[tree[0]]
    noughts = grown(own, 0)
    amount = own
    for part, inner in zip(right, tree[1]):
        if part[0] == "sign":
            further = leaf_amount(grammar.own_faults(), part[1], inner, noughts)
        else:
            further = tree_amount_of(grammar, inner)
        amount = tuple([
            number + more if sort == "flat" else max(number, more + up)
            for sort, number, more, up in zip(sorts, amount, further, rise)
        ])
    return amount
