"""How operators make rows, step by step, and what they hold meanwhile; rows are counted as they are touched.

Each function tells (rows, steps, room held).
"""

from anyprice.looks import joins_between, sides_of_join


def operated(asked, tree, parts):
    """The set that an operator makes of parts, pairs (set, rows), its rows, and its own steps and room as counted."""
    if tree[0] in ("all", "by", "along"):
        word = asked.picks[tree[1]][0][0] if tree[0] == "by" else tree[1]
        return ((word,),) + table_rows(asked, tree, word)
    if tree[0] == "sort":
        words, rows = parts[0]
        return (words,) + sorted_rows(rows, asked.place_of(words, tuple(tree[2])))
    if tree[0] == "step":
        return stepped_rows(asked, parts[0][0], parts[0][1], asked.joins[tree[2]])
    words = asked.set_of(parts[0][0] + parts[1][0])
    return (words,) + both_rows(asked, tree, parts[0], parts[1])


def table_rows(asked, tree, word):
    """The rows of a source's table for which its picks hold: as they stand, by an index, or along one."""
    rows = asked.tables[word][1]
    steps = 0
    if tree[0] == "by":
        column, number = asked.picks[tree[1]]
        rows = indexed_rows(asked, column).get(number, [])
        steps = 1
    elif tree[0] == "along":
        index = indexed_rows(asked, (word, tree[2]))
        rows = [row for number in sorted(index) for row in index[number]]
        steps = len(rows)
    found = []
    for row in rows:
        steps += 1
        if asked.is_picked(word, row):
            found.append((row,))
    return found, steps, len(found)


def indexed_rows(asked, column):
    """The dict from the integers in a column to the lists of the table's rows with them, in its order."""
    place = asked.place_of((column[0],), column)[1]
    index = {}
    for row in asked.tables[column[0]][1]:
        index.setdefault(row[place], []).append(row)
    return index


def sorted_rows(rows, place):
    """The rows, ascending by what they have in a place, equal ones as they came: runs are merged two by two."""
    runs = [[row] for row in rows]
    steps = 0
    while len(runs) > 1:
        merged = []
        for at in range(0, len(runs), 2):
            further = runs[at + 1] if at + 1 < len(runs) else []
            merged.append(merged_runs(runs[at], further, place))
            steps += len(merged[-1])
        runs = merged
    moved = runs[0] if runs else []
    return moved, steps, len(rows) + len(moved)


def merged_runs(ones, others, place):
    """Two ascending runs as one."""
    merged = []
    at = 0
    for other in others:
        while at < len(ones) and number_in(ones[at], place) <= number_in(other, place):
            merged.append(ones[at])
            at += 1
        merged.append(other)
    return merged + ones[at:]


def number_in(row, place):
    """What a row of a set has in a column, told by the number of the row of its source and the place in it."""
    return row[place[0]][place[1]]


def stepped_rows(asked, words, rows, join):
    """The set with one source more, and for each row of a set in turn the rows of this source's table by an index."""
    inner, outer = sides_of_join(join, words)
    source = (outer[0],)
    whole = asked.set_of(words + source)
    places = [place_from(words, source, word) for word in whole]
    links = asked.links_to(words, outer[0])
    place = asked.place_of(words, inner)
    index = indexed_rows(asked, outer)
    found = []
    steps = 0
    for row in rows:
        steps += 1
        for more in index.get(number_in(row, place), []):
            steps += 1
            if asked.is_picked(outer[0], more) and all([row[at][inside] == more[its] for at, inside, its in links]):
                found.append(row_of_both(row, (more,), places))
    return whole, found, steps, len(rows) + len(found)


def place_from(ones, others, word):
    """Where a word of two sets stands: (0, its place in the one) or (1, its place in the other one)."""
    return (0, ones.index(word)) if word in ones else (1, others.index(word))


def row_of_both(one, other, places):
    """The row of two sets together."""
    return tuple([one[at] if side == 0 else other[at] for side, at in places])


def both_rows(asked, tree, one, other):
    """The rows of two sets, pairs (set, rows), that keep all joins between both."""
    words = asked.set_of(one[0] + other[0])
    places = [place_from(one[0], other[0], word) for word in words]
    sides = [sides_of_join(asked.joins[number], one[0]) for number in joins_between(asked, one[0], other[0])]
    keys = [(asked.place_of(one[0], mine), asked.place_of(other[0], its)) for mine, its in sides]
    if tree[0] == "boxes":
        pairs, steps, held = boxed_pairs(one[1], other[1], keys)
    else:
        if tree[0] == "merge":
            mine, its = sides_of_join(asked.joins[tree[4]], one[0])
            by = (asked.place_of(one[0], mine), asked.place_of(other[0], its))
            looked, steps = merged_pairs(one[1], other[1], by)
        else:
            looked, steps = looped_pairs(one[1], other[1])
        pairs = [pair for pair in looked if are_linked(pair, keys)]
        held = 0
    rows = [row_of_both(mine, its, places) for mine, its in pairs]
    return rows, steps, len(one[1]) + len(other[1]) + len(rows) + held


def are_linked(pair, keys):
    """Whether two rows have the same in all places of joins."""
    return all([number_in(pair[0], mine) == number_in(pair[1], its) for mine, its in keys])


def looped_pairs(ones, others):
    """Each row of the ones with each of the others, and how many pairs were looked at."""
    pairs = [(mine, its) for mine in ones for its in others]
    return pairs, len(pairs)


def boxed_pairs(ones, others, keys):
    """For each row of the others in turn its box; rows put in, boxes asked, rows taken out; rows in boxes."""
    boxes = {}
    pairs = []
    steps = 0
    held = 0
    for mine in ones:
        boxes.setdefault(tuple([number_in(mine, place) for place, _ in keys]), []).append(mine)
        steps += 1
        held += 1
    for its in others:
        steps += 1
        for mine in boxes.get(tuple([number_in(its, place) for _, place in keys]), []):
            pairs.append((mine, its))
            steps += 1
    return pairs, steps, held


def merged_pairs(ones, others, by):
    """Ascending rows of both, for each of the ones in turn the equal others; rows gone past and pairs looked at."""
    mine_at, its_at = by
    pairs = []
    steps = 0
    begin = 0
    for mine in ones:
        steps += 1
        number = number_in(mine, mine_at)
        while begin < len(others) and number_in(others[begin], its_at) < number:
            begin += 1
            steps += 1
        at = begin
        while at < len(others) and number_in(others[at], its_at) == number:
            pairs.append((mine, others[at]))
            steps += 1
            at += 1
    return pairs, steps + len(others) - begin
