"""The rules of all operators of a question: things are sets with the tests that are done and an order.

A THING here is (set, tests done, order), the order being the first of its tied columns, or None; or a pair of two such
things that are made one behind the other, or beside one another; or ("code", number of a test). An ENTRY is
(thing, parts, own amount, how, meaning), its parts (thing, times, extra). Own amounts are (steps, time or bytes, room).
"""

from anyprice.looks import joins_between, sides_of_join
from anyprice.owns import many_of, own_of

ADDED = ("times", "times", "most")
BESIDE = ("times", "most", "sum")
CODED = ("times", "sum", "most")
NOUGHTS = (0, 0, 0)
TURNED = {"left": "right", "right": "left", "beside": "beside"}


def sets_in(words):
    """The list of all sets of some of the words, each behind those that are in it."""
    sets = [()]
    for word in words:
        sets = sets + [known + (word,) for known in sets]
    return sets[1:]


def all_done(asked, words):
    """The list of all that can be done of the tests of a set's sources, each behind those that are in it."""
    found = [()]
    for number, test in enumerate(asked.tests):
        if test[0] in words:
            found = found + [done + (number,) for done in found]
    return found


def orders_in(asked, words):
    """The list of the orders of a set that are of use: by the question's by, or by what joins it to other sources."""
    return [group[0] for group in asked.ties(words) if is_of_use(asked, words, group)]


def is_of_use(asked, words, group):
    """Whether something can come of an order by tied columns of a set: it can stay, or be merged by."""
    if asked.by in group:
        return True
    for one, other in asked.joins:
        if (one in group and other[0] not in words) or (other in group and one[0] not in words):
            return True
    return False


def order_in(asked, words, column):
    """The order by a column in a set, or by None; None where it is of no use."""
    if column is None:
        return None
    group = asked.tied_to(words, column)
    return group[0] if is_of_use(asked, words, group) else None


def goal_of(asked):
    """The thing whose plans are the trees of the question."""
    words = asked.whole_set()
    return words, tuple(range(len(asked.tests))), order_in(asked, words, asked.by)


def own_row(asked, tree, states):
    """The own amount of an operator: where trees can be beside one another, each step takes its time."""
    _, steps, room = own_of(asked, tree, states)
    return steps, steps if "beside" in asked.modes else 0, room


def operator_entries(asked):
    """The entries of all operators of a question, codes of tests aside."""
    entries = []
    for words in sets_in(asked.whole_set()):
        entries.extend(read_entries(asked, words))
        for done in all_done(asked, words):
            entries.extend(order_entries(asked, words, done))
            entries.extend(step_entries(asked, words, done))
            entries.extend(tested_entries(asked, words, done))
            entries.extend(pair_entries(asked, words, done))
    return entries


def entry(asked, thing, below, tree, meaning):
    """The entry of an operator over a thing, or over none."""
    parts = [(part, 1, NOUGHTS) for part in below]
    return thing, parts, own_row(asked, tree, [(part[0], part[1]) for part in below]), ADDED, meaning


def read_entries(asked, words):
    """Those of operators over a source alone."""
    if len(words) > 1:
        return []
    word = words[0]
    bare = (words, (), None)
    trees = [("all", word)]
    trees.extend([("by", number) for number, pick in enumerate(asked.picks) if is_index_of(asked, word, pick[0])])
    found = [entry(asked, bare, [], tree, ("tree", tree)) for tree in trees]
    for column in asked.columns_in(words):
        if asked.is_indexed(column):
            tree = ("along", word, column[1])
            thing = (words, (), order_in(asked, words, column))
            found.append(entry(asked, thing, [], tree, ("tree", tree)))
    return found


def is_index_of(asked, word, column):
    """Whether it is an indexed column of the source."""
    return column[0] == word and asked.is_indexed(column)


def order_entries(asked, words, done):
    """Those by which rows are sorted, and by which an order is let go for nothing."""
    bare = (words, done, None)
    found = []
    for order in orders_in(asked, words):
        found.append((bare, [((words, done, order), 1, NOUGHTS)], NOUGHTS, ADDED, ("free",)))
    for column in asked.columns_in(words):
        if asked.can_be_sorted_by(column):
            thing = (words, done, order_in(asked, words, column))
            found.append(entry(asked, thing, [bare], ("sort", None, column), ("sort", column)))
    return found


def kept_orders(asked, inner, words):
    """The pairs (order of a set, the same in a greater one), those alone that are of use in both; None is the same."""
    pairs = [(None, None)]
    for order in orders_in(asked, inner):
        greater = order_in(asked, words, order)
        if greater is not None:
            pairs.append((order, greater))
    return pairs


def steps_to(asked, words, done):
    """The list of the pairs (number of a join, set) from which one steps to the one source that the set lacks."""
    found = []
    known = [asked.tests[test][0] for test in done]
    fresh = [word for word in words if word not in known]
    for number, join in enumerate(asked.joins):
        for outer in join:
            inner = tuple([word for word in words if word != outer[0]])
            if outer[0] in fresh and asked.is_indexed(outer) and sides_of_join(join, inner)[0] is not None:
                found.append((number, inner))
    return found


def step_entries(asked, words, done):
    """Those that step from a set to one more source, no test of which is done."""
    found = []
    for number, inner in steps_to(asked, words, done):
        for order, greater in kept_orders(asked, inner, words):
            below = [(inner, done, order)]
            found.append(entry(asked, (words, done, greater), below, ("step", None, number), ("step", number)))
    return found


def tested_entries(asked, words, done):
    """Those of tests, the last of those that are done; the code is a part, for each row that comes to it."""
    found = []
    for number in done:
        earlier = tuple([other for other in done if other != number])
        many = many_of(asked, (words, earlier))
        for order in [None] + orders_in(asked, words):
            below = [(words, earlier, order)]
            thing, parts, own, _, meaning = entry(
                asked, (words, done, order), below, ("tested", None, number), ("tested", number))
            if many > 0:
                parts.append((("code", number), many, NOUGHTS))
            found.append((thing, parts, own, CODED, meaning))
    return found


def code_entries(number, amounts):
    """Those by which the code of a test is had, one for each of its amounts (cycles, bytes)."""
    return [
        (("code", number), [], (cycles, size, 0), CODED, ("code", number, (cycles, size)))
        for cycles, size in amounts
    ]


def halves_of(asked, words, done):
    """The list of the pairs of states that are a state together, the one with its first source ahead."""
    found = []
    for inner in sets_in(words):
        if words[0] in inner and inner != words:
            rest = tuple([word for word in words if word not in inner])
            ahead = tuple([number for number in done if asked.tests[number][0] in inner])
            behind = tuple([number for number in done if number not in ahead])
            found.append(((inner, ahead), (rest, behind)))
    return found


def pair_entries(asked, words, done):
    """Those of two parts of a set: how both are made, and what takes them."""
    found = []
    made = {}
    for one, other in halves_of(asked, words, done):
        told = taking_both(asked, words, done, one, other, False) + taking_both(asked, words, done, other, one, True)
        for thing, pair, tree, meaning in told:
            if pair not in made:
                made[pair] = True
                found.extend(mode_entries(asked, pair))
            states = (other, one) if meaning[1] else (one, other)
            found.append((thing, [(pair, 1, NOUGHTS)], own_row(asked, tree, states), ADDED, meaning))
    return found


def taking_both(asked, words, done, one, other, turned):
    """The list of (thing, pair, tree, meaning) of operators over two states, the pair being told turned or not."""
    found = []
    joins = joins_between(asked, one[0], other[0])
    for order, greater in kept_orders(asked, one[0], words):
        pair = as_pair(one + (order,), other + (None,), turned)
        found.append(((words, done, greater), pair, ("loops", None), ("loops", turned)))
    if joins:
        for order, greater in kept_orders(asked, other[0], words):
            pair = as_pair(one + (None,), other + (order,), turned)
            found.append(((words, done, greater), pair, ("boxes", None), ("boxes", turned)))
    for number in joins:
        mine, its = sides_of_join(asked.joins[number], one[0])
        ordered = (one + (order_in(asked, one[0], mine),), other + (order_in(asked, other[0], its),))
        thing = (words, done, order_in(asked, words, mine))
        tree = ("merge", None, None, None, number)
        found.append((thing, as_pair(ordered[0], ordered[1], turned), tree, ("merge", turned, number)))
    return found


def as_pair(one, other, turned):
    """The pair of both things, or the other way round."""
    return (other, one) if turned else (one, other)


def mode_entries(asked, pair):
    """Those by which both things of a pair are made: the ones that are made first are held."""
    sizes = [many_of(asked, (part[0], part[1])) for part in pair]
    extras = {"left": [NOUGHTS, (0, 0, sizes[0])], "right": [(0, 0, sizes[1]), NOUGHTS], "beside": [NOUGHTS, NOUGHTS]}
    return [
        (pair, [(pair[0], 1, extras[mode][0]), (pair[1], 1, extras[mode][1])], NOUGHTS,
         BESIDE if mode == "beside" else ADDED, ("mode", mode))
        for mode in asked.modes
    ]
