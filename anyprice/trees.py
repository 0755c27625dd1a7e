"""Trees of numbers: sums, differences and products of integers and variables."""

from anyprice.kinds import is_int, is_list, is_list_of
from anyprice.refusals import BadTree, BadValues
from anyprice.words import is_word

OPERATIONS = ("add", "sub", "mul")


def is_tree(thing):
    """Whether it is a number, a variable, or an operation of two trees."""
    if not is_list(thing):
        return False
    if len(thing) == 2:
        word, inner = thing
        return (word == "num" and is_int(inner)) or (word == "var" and is_word(inner))
    return is_list_of(thing, 3) and thing[0] in OPERATIONS and is_tree(thing[1]) and is_tree(thing[2])


def as_tree(tree):
    """The tree as tuples throughout."""
    if len(tree) == 2:
        return tuple(tree)
    return tree[0], as_tree(tree[1]), as_tree(tree[2])


def checked_number_tree(tree):
    """The tree as tuples throughout; BadTree for any object that is none."""
    if not is_tree(tree):
        raise BadTree(tree)
    return as_tree(tree)


def variables_of(tree):
    """The list of the words of the tree's variables, as often as they stand in it."""
    if tree[0] == "num":
        return []
    return [tree[1]] if tree[0] == "var" else variables_of(tree[1]) + variables_of(tree[2])


def words_in(tree):
    """The ascending list of the words of the tree's variables, each once."""
    return sorted(set(variables_of(checked_number_tree(tree))))


def check_values(words, values):
    """BadValues with the first of the words that has no integer among the values, with None for what is no dict."""
    if not isinstance(values, dict):
        raise BadValues(None)
    for word in words:
        if word not in values or not is_int(values[word]):
            raise BadValues(word)


def worth_of(tree, values):
    """What the tree is worth where its variables have these values."""
    words = words_in(tree)
    check_values(words, values)
    return worth(tree, values)


def worth(tree, values):
    """What a tree is worth, which was checked with its values."""
    if tree[0] == "num":
        return tree[1]
    if tree[0] == "var":
        return values[tree[1]]
    one, other = worth(tree[1], values), worth(tree[2], values)
    if tree[0] == "add":
        return one + other
    return one - other if tree[0] == "sub" else one * other
