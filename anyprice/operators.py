"""Operator trees: which there are of a question, what they make, in which order, and what amounts they take.

Within this file a tree that was looked at is told as (set, order): its words, and the column of its order or None.
"""

from anyprice.kinds import is_list, is_number_below
from anyprice.questions import asked_of
from anyprice.refusals import BadTree

MODES = ("left", "right", "beside")
SIZES = {"all": 2, "by": 2, "along": 3, "sort": 3, "loops": 4, "boxes": 4, "merge": 5, "step": 3}


def is_operator_tree(base, question, thing):
    """Whether it is an operator tree of some set of sources."""
    return looked_at(asked_of(base, question), thing) is not None


def checked_tree(asked, tree):
    """The pair (set, order) of a tree; BadTree for any object that is none."""
    told = looked_at(asked, tree)
    if told is None:
        raise BadTree(tree)
    return told


def tree_set(base, question, tree):
    """The list of the words of the tree's set, in the order of the sources."""
    words, _ = checked_tree(asked_of(base, question), tree)
    return list(words)


def tree_order(base, question, tree):
    """None, or the first one of all columns that are tied to the tree's order."""
    asked = asked_of(base, question)
    words, order = checked_tree(asked, tree)
    return None if order is None else asked.tied_to(words, order)[0]


def looked_at(asked, thing):
    """The pair (set, order) of a tree, None for any other object."""
    if not is_list(thing) or len(thing) == 0 or not isinstance(thing[0], str):
        return None
    if thing[0] not in SIZES or len(thing) != SIZES[thing[0]]:
        return None
    if thing[0] in ("all", "by", "along"):
        return table_read(asked, thing)
    if thing[0] in ("sort", "step"):
        told = looked_at(asked, thing[1])
        if told is None:
            return None
        return sorted_by(asked, told, thing[2]) if thing[0] == "sort" else stepped(asked, told, thing[2])
    if not isinstance(thing[1], str) or thing[1] not in MODES:
        return None
    one, other = looked_at(asked, thing[2]), looked_at(asked, thing[3])
    if one is None or other is None or any([word in other[0] for word in one[0]]):
        return None
    return both_read(asked, thing, one, other)


def table_read(asked, thing):
    """What is told of an operator over a source alone."""
    if thing[0] == "by":
        if not is_number_below(thing[1], len(asked.picks)):
            return None
        column = asked.picks[thing[1]][0]
        return ((column[0],), None) if asked.is_indexed(column) else None
    if not asked.has_word(thing[1]):
        return None
    if thing[0] == "all":
        return (thing[1],), None
    column = (thing[1], thing[2])
    return ((thing[1],), column) if asked.has_column(column) and asked.is_indexed(column) else None


def sorted_by(asked, told, column):
    """What is told of a tree that is sorted by a column of its set that stands in a join or is the question's by."""
    if not asked.has_column(column) or column[0] not in told[0]:
        return None
    place = tuple(column)
    if place != asked.by and not any([place in join for join in asked.joins]):
        return None
    return told[0], place


def stepped(asked, told, number):
    """What is told of a tree and a join between a column of its set and an indexed one of a source beside it."""
    if not is_number_below(number, len(asked.joins)):
        return None
    inner, outer = sides_of_join(asked.joins[number], told[0])
    if inner is None or outer[0] in told[0] or not asked.is_indexed(outer):
        return None
    return asked.set_of(told[0] + (outer[0],)), told[1]


def sides_of_join(join, words):
    """The column of a join that is in a set, and the other one; None for both if none is."""
    one, other = join
    if one[0] in words:
        return one, other
    return (other, one) if other[0] in words else (None, None)


def both_read(asked, thing, one, other):
    """What is told of an operator over two trees without a common source."""
    words = asked.set_of(one[0] + other[0])
    if thing[0] == "loops":
        return words, one[1]
    if thing[0] == "boxes":
        linked = [join for join in asked.joins if is_between(join, one[0], other[0])]
        return (words, other[1]) if linked else None
    if not is_number_below(thing[4], len(asked.joins)) or not is_between(asked.joins[thing[4]], one[0], other[0]):
        return None
    mine, its = sides_of_join(asked.joins[thing[4]], one[0])
    if not is_in_order(asked, one, mine) or not is_in_order(asked, other, its):
        return None
    return words, mine


def is_between(join, ones, others):
    """Whether a join is between two sets that have nothing in common."""
    mine, its = sides_of_join(join, ones)
    return mine is not None and its[0] in others


def is_in_order(asked, told, column):
    """Whether the order of a tree is tied to the column in its set."""
    return told[1] is not None and column in asked.tied_to(told[0], told[1])


def tree_amount(base, question, tree):
    """The amount (steps, time, room) of the tree."""
    asked = asked_of(base, question)
    checked_tree(asked, tree)
    return weighed(asked, tree)[1]


def weighed(asked, tree):
    """The pair (set, amount) of a tree, which was checked."""
    if tree[0] in ("all", "by", "along"):
        word = asked.picks[tree[1]][0][0] if tree[0] == "by" else tree[1]
        steps = read_steps(asked, tree, word)
        return (word,), (steps, steps, len(asked.rows((word,))))
    if tree[0] in ("sort", "step"):
        words, amount = weighed(asked, tree[1])
        whole, steps, room = sort_own(asked, words) if tree[0] == "sort" else step_own(asked, words, tree[2])
        return whole, (steps + amount[0], steps + amount[1], max(room, amount[2]))
    return both_weighed(asked, tree)


def read_steps(asked, tree, word):
    """The own steps of an operator over a source alone."""
    if tree[0] == "by":
        column, number = asked.picks[tree[1]]
        return 1 + asked.numbers_in_table(column).count(number)
    many = len(asked.tables[word][1])
    return 2 * many if tree[0] == "along" else many


def sort_own(asked, words):
    """The set, own steps and own room of a sort: as many rounds as double runs of one until they are all rows."""
    many = len(asked.rows(words))
    rounds = max(0, many - 1).bit_length()
    return words, many * rounds, 2 * many


def step_own(asked, words, number):
    """The set, own steps and own room of a step."""
    inner, outer = sides_of_join(asked.joins[number], words)
    whole = asked.set_of(words + (outer[0],))
    many = len(asked.rows(words))
    steps = many + equal_pairs(asked.numbers_of(words, inner), asked.numbers_in_table(outer))
    return whole, steps, many + len(asked.rows(whole))


def equal_pairs(ones, others):
    """How many pairs of a number of the one list and one of the other one are equal."""
    counts = {}
    for number in others:
        counts[number] = counts.get(number, 0) + 1
    return sum([counts.get(number, 0) for number in ones])


def both_weighed(asked, tree):
    """The set and the amount of an operator over two trees."""
    ones, amount = weighed(asked, tree[2])
    others, further = weighed(asked, tree[3])
    words = asked.set_of(ones + others)
    first, second, both = len(asked.rows(ones)), len(asked.rows(others)), len(asked.rows(words))
    room = first + second + both
    if tree[0] == "loops":
        steps = first * second
    elif tree[0] == "boxes":
        steps = first + second + both
        room = room + first
    else:
        mine, its = sides_of_join(asked.joins[tree[4]], ones)
        steps = first + second + equal_pairs(asked.numbers_of(ones, mine), asked.numbers_of(others, its))
    if tree[1] == "beside":
        time, needed = max(amount[1], further[1]), amount[2] + further[2]
    else:
        time = amount[1] + further[1]
        held = first + further[2] if tree[1] == "left" else second + amount[2]
        needed = max(held, amount[2] if tree[1] == "left" else further[2])
    return words, (steps + amount[0] + further[0], steps + time, max(room, needed))
