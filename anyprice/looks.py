"""What operator trees make: their sets, the tests that are done in them, and their orders.

A tree that was looked at is told as (set, order, done): its words, the column of its order or None, and the ascending
numbers of the tests that are done in it. A STATE is a pair (set, done).
"""

from anyprice.kinds import is_list, is_number_below
from anyprice.refusals import BadTree

SIZES = {"all": 2, "by": 2, "along": 3, "sort": 3, "loops": 4, "boxes": 4, "merge": 5, "step": 3, "tested": 3}


def checked_operators(asked, tree):
    """What is told of a tree; BadTree for any object that is none."""
    told = looked_at(asked, tree)
    if told is None:
        raise BadTree(tree)
    return told


def parts_of(tree):
    """The list of the trees that an operator takes."""
    if tree[0] in ("all", "by", "along"):
        return []
    return [tree[1]] if tree[0] in ("sort", "step", "tested") else [tree[2], tree[3]]


def mode_of(tree):
    """The mode of an operator; as good as any for one that does not take two trees."""
    return tree[1] if len(parts_of(tree)) == 2 else "left"


def is_of_the_question(asked, told):
    """Whether a tree of which this is told is of all sources, in the order that is asked for, with all tests done."""
    if told is None or told[0] != asked.whole_set() or len(told[2]) != len(asked.tests):
        return False
    return asked.by is None or is_in_order(asked, told, asked.by)


def looked_at(asked, thing):
    """What is told of a tree, None for any other object."""
    if not is_list(thing) or len(thing) == 0 or not isinstance(thing[0], str):
        return None
    if thing[0] not in SIZES or len(thing) != SIZES[thing[0]]:
        return None
    if thing[0] in ("all", "by", "along"):
        return table_read(asked, thing)
    if thing[0] in ("sort", "step", "tested"):
        told = looked_at(asked, thing[1])
        return None if told is None else one_read(asked, thing, told)
    if not isinstance(thing[1], str) or thing[1] not in asked.modes:
        return None
    one, other = looked_at(asked, thing[2]), looked_at(asked, thing[3])
    if one is None or other is None or any([word in other[0] for word in one[0]]):
        return None
    return both_read(asked, thing, one, other)


def table_read(asked, thing):
    """What is told of an operator over a source alone."""
    if thing[0] == "by":
        if not is_number_below(thing[1], len(asked.picks)):
            return None
        column = asked.picks[thing[1]][0]
        return ((column[0],), None, ()) if asked.is_indexed(column) else None
    if not asked.has_word(thing[1]):
        return None
    if thing[0] == "all":
        return (thing[1],), None, ()
    column = (thing[1], thing[2])
    return ((thing[1],), column, ()) if asked.has_column(column) and asked.is_indexed(column) else None


def one_read(asked, thing, told):
    """What is told of an operator over one tree."""
    if thing[0] == "sort":
        return sorted_by(asked, told, thing[2])
    return stepped(asked, told, thing[2]) if thing[0] == "step" else further_tested(asked, told, thing[2])


def sorted_by(asked, told, column):
    """What is told of a tree that is sorted by a column of its set that stands in a join or is the question's by."""
    if not asked.has_column(column) or column[0] not in told[0] or not asked.can_be_sorted_by(tuple(column)):
        return None
    return told[0], tuple(column), told[2]


def stepped(asked, told, number):
    """What is told of a tree and a join between a column of its set and an indexed one of a source beside it."""
    if not is_number_below(number, len(asked.joins)):
        return None
    inner, outer = sides_of_join(asked.joins[number], told[0])
    if inner is None or outer[0] in told[0] or not asked.is_indexed(outer):
        return None
    return asked.set_of(told[0] + (outer[0],)), told[1], told[2]


def further_tested(asked, told, number):
    """What is told of a tree's rows that meet a test of one of its sources that is not done in it yet."""
    if not is_number_below(number, len(asked.tests)):
        return None
    if asked.tests[number][0] not in told[0] or number in told[2]:
        return None
    return told[0], told[1], tuple(sorted(told[2] + (number,)))


def sides_of_join(join, words):
    """The column of a join that is in a set, and the other one; None for both if none is."""
    one, other = join
    if one[0] in words:
        return one, other
    return (other, one) if other[0] in words else (None, None)


def both_read(asked, thing, one, other):
    """What is told of an operator over two trees without a common source."""
    words = asked.set_of(one[0] + other[0])
    done = tuple(sorted(one[2] + other[2]))
    if thing[0] == "loops":
        return words, one[1], done
    if thing[0] == "boxes":
        return (words, other[1], done) if joins_between(asked, one[0], other[0]) else None
    if not is_number_below(thing[4], len(asked.joins)) or thing[4] not in joins_between(asked, one[0], other[0]):
        return None
    mine, its = sides_of_join(asked.joins[thing[4]], one[0])
    if not is_in_order(asked, one, mine) or not is_in_order(asked, other, its):
        return None
    return words, mine, done


def joins_between(asked, ones, others):
    """The list of the numbers of the joins between two sets that have nothing in common."""
    found = []
    for number, join in enumerate(asked.joins):
        mine, its = sides_of_join(join, ones)
        if mine is not None and its[0] in others:
            found.append(number)
    return found


def is_in_order(asked, told, column):
    """Whether the order of a tree is tied to the column in its set."""
    return told[1] is not None and column in asked.tied_to(told[0], told[1])
