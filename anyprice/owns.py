"""What operators take themselves, and with their parts; a state is a pair (set, tests that are done)."""

from anyprice.looks import mode_of, parts_of, sides_of_join


def own_of(asked, tree, states):
    """The state that an operator makes of those of its parts, its own steps and its own room."""
    if tree[0] in ("all", "by", "along"):
        return read_own(asked, tree)
    if tree[0] == "sort":
        return sort_own(asked, states[0])
    if tree[0] == "step":
        return step_own(asked, states[0], tree[2])
    if tree[0] == "tested":
        return test_own(asked, states[0], tree[2])
    return both_own(asked, tree, states[0], states[1])


def many_of(asked, state):
    """How many rows a state has."""
    return len(asked.rows(state[0], state[1]))


def read_own(asked, tree):
    """Of an operator over a source alone."""
    word = asked.picks[tree[1]][0][0] if tree[0] == "by" else tree[1]
    if tree[0] == "by":
        column, number = asked.picks[tree[1]]
        steps = 1 + asked.numbers_in_table(column).count(number)
    else:
        many = len(asked.tables[word][1])
        steps = 2 * many if tree[0] == "along" else many
    state = ((word,), ())
    return state, steps, many_of(asked, state)


def sort_own(asked, state):
    """Of a sort: as many rounds as double runs of one until they are all rows."""
    many = many_of(asked, state)
    rounds = max(0, many - 1).bit_length()
    return state, many * rounds, 2 * many


def step_own(asked, state, number):
    """Of a step along the join of this number."""
    words, done = state
    inner, outer = sides_of_join(asked.joins[number], words)
    whole = (asked.set_of(words + (outer[0],)), done)
    many = many_of(asked, state)
    steps = many + equal_pairs(asked.numbers_of(words, done, inner), asked.numbers_in_table(outer))
    return whole, steps, many + many_of(asked, whole)


def test_own(asked, state, number):
    """Of a test, its code aside."""
    words, done = state
    left = (words, tuple(sorted(done + (number,))))
    many = many_of(asked, state)
    return left, many, many + many_of(asked, left)


def equal_pairs(ones, others):
    """How many pairs of a number of the one list and one of the other one are equal."""
    counts = {}
    for number in others:
        counts[number] = counts.get(number, 0) + 1
    return sum([counts.get(number, 0) for number in ones])


def both_own(asked, tree, one, other):
    """Of an operator over two trees."""
    state = (asked.set_of(one[0] + other[0]), tuple(sorted(one[1] + other[1])))
    first, second, both = many_of(asked, one), many_of(asked, other), many_of(asked, state)
    room = first + second + both
    if tree[0] == "loops":
        return state, first * second, room
    if tree[0] == "boxes":
        return state, first + second + both, room + first
    mine, its = sides_of_join(asked.joins[tree[4]], one[0])
    pairs = equal_pairs(asked.numbers_of(one[0], one[1], mine), asked.numbers_of(other[0], other[1], its))
    return state, first + second + pairs, room


def taken_together(mode, own, amounts, sizes):
    """What an operator takes with its parts, so many rows each; amounts are (steps, time or bytes, room).

    Parts of an operator without modes are taken like those of any mode: there is one at most.
    """
    seconds = [amount[1] for amount in amounts]
    second = max(seconds, default=0) if mode == "beside" else sum(seconds)
    room = max(own[2], room_of_parts(mode, [amount[2] for amount in amounts], sizes))
    return own[0] + sum([amount[0] for amount in amounts]), own[1] + second, room


def room_of_parts(mode, rooms, sizes):
    """What parts need in rows held, if the ones that are made first are held while the others are made."""
    if len(rooms) < 2:
        return max(rooms, default=0)
    if mode == "beside":
        return sum(rooms)
    first, second = (0, 1) if mode == "left" else (1, 0)
    return max(rooms[first], sizes[first] + rooms[second])


def weighed(asked, tree):
    """The pair (state, amount) of a tree without tests, which was checked: steps, time and room."""
    parts = [weighed(asked, part) for part in parts_of(tree)]
    states = [state for state, _ in parts]
    state, steps, room = own_of(asked, tree, states)
    sizes = [many_of(asked, inner) for inner in states]
    return state, taken_together(mode_of(tree), (steps, steps, room), [amount for _, amount in parts], sizes)
