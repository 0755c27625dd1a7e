"""Questions as they are worked with: their columns, the rows of their sets, and what is tied there."""

from anyprice.kinds import is_list, is_list_of
from anyprice.refusals import BadSet
from anyprice.trees import as_tree, worth

MODES = ("left", "right", "beside")


def as_column(column):
    """A column, or None, as a tuple."""
    return None if column is None else tuple(column)


class Asked:
    """A question of a base, both right, tuples throughout; sets are tuples of words in the order of the sources.

    It can have tests, pairs (word of a source, tree); those that are done are ascending tuples of their numbers. Modes
    are those that its operator trees can have.
    """

    def __init__(self, base, question, tests=(), modes=MODES):
        sources, joins, picks, shown, by = question
        tables = base.all_tables()
        self.sources = [tuple(source) for source in sources]
        self.tables = {word: tables[name] for word, name in self.sources}
        self.joins = [(tuple(one), tuple(other)) for one, other in joins]
        self.picks = [(tuple(column), number) for column, number in picks]
        self.shown = [tuple(column) for column in shown]
        self.by = as_column(by)
        self.tests = [(word, as_tree(tree)) for word, tree in tests]
        self.modes = modes
        self.found = {}
        self.tied = {}

    def whole_set(self):
        """The set of all sources."""
        return tuple([word for word, _ in self.sources])

    def checked_set(self, words):
        """The set of some words; BadSet for any object that is no list of unlike words of sources, one at least."""
        if not is_list(words) or len(words) == 0:
            raise BadSet(words)
        for index, word in enumerate(words):
            if not self.has_word(word) or word in words[:index]:
                raise BadSet(words)
        return self.set_of(words)

    def set_of(self, words):
        """The words in the order of the sources."""
        return tuple([word for word in self.whole_set() if word in words])

    def has_word(self, thing):
        """Whether it is the word of a source."""
        return isinstance(thing, str) and thing in self.tables

    def columns_in(self, words):
        """The list of the columns of a set, in order."""
        return [(word, column) for word in words for column in self.tables[word][0]]

    def has_column(self, thing):
        """Whether it is a column of a source."""
        if not is_list_of(thing, 2) or not self.has_word(thing[0]):
            return False
        return isinstance(thing[1], str) and thing[1] in self.tables[thing[0]][0]

    def can_be_sorted_by(self, column):
        """Whether a column stands in a join or is the question's by."""
        return column == self.by or any([column in join for join in self.joins])

    def is_indexed(self, column):
        """Whether a column is indexed."""
        return column[1] in self.tables[column[0]][2]

    def place_of(self, words, column):
        """Where rows of a set have a column: the number of the row of its source, and the place in it."""
        return words.index(column[0]), self.tables[column[0]][0].index(column[1])

    def numbers_of(self, words, done, column):
        """The list of what the rows of a set that meet the tests that are done have in a column of it."""
        source, place = self.place_of(words, column)
        return [row[source][place] for row in self.rows(words, done)]

    def numbers_in_table(self, column):
        """The list of what the rows of the whole table have in a column."""
        place = self.place_of((column[0],), column)[1]
        return [row[place] for row in self.tables[column[0]][1]]

    def rows(self, words, done=()):
        """The list of the rows of a set that meet the tests that are done, found once, source by source."""
        if (words, done) not in self.found:
            rows = [()]
            for index, word in enumerate(words):
                known = words[:index]
                own = self.picked_rows(word, done)
                links = self.links_to(known, word)
                rows = [
                    row + (more,)
                    for row in rows for more in own
                    if all([row[source][place] == more[at] for source, place, at in links])
                ]
            self.found[(words, done)] = rows
        return self.found[(words, done)]

    def picked_rows(self, word, done):
        """The rows of a source's table for which its picks hold, and that meet its tests of those that are done."""
        rows = [row for row in self.tables[word][1] if self.is_picked(word, row)]
        numbers = [number for number in done if self.tests[number][0] == word]
        return [row for row in rows if all([self.meets(number, row) for number in numbers])]

    def is_picked(self, word, row):
        """Whether all picks on a source hold for a row of its table."""
        columns = self.tables[word][0]
        return all([row[columns.index(column[1])] == number for column, number in self.picks if column[0] == word])

    def meets(self, number, row):
        """Whether a row of its source's table meets the test of this number."""
        word, tree = self.tests[number]
        return worth(tree, dict(zip(self.tables[word][0], row))) > 0

    def answer(self, done=()):
        """The ascending list of what the rows of all sources that meet the tests have in the shown columns."""
        words = self.whole_set()
        places = [self.place_of(words, column) for column in self.shown]
        return sorted([tuple([row[source][place] for source, place in places]) for row in self.rows(words, done)])

    def links_to(self, words, word):
        """The triples (number of a row, place, place in the new one) that joins between a set and a source ask for."""
        links = []
        for one, other in self.joins:
            for mine, its in ((one, other), (other, one)):
                if mine[0] in words and its[0] == word:
                    links.append(self.place_of(words, mine) + (self.place_of((word,), its)[1],))
        return links

    def ties(self, words):
        """The lists of all columns of a set that are tied with one another, each in order, and by their first ones."""
        if words not in self.tied:
            order = self.columns_in(words)
            groups = [[column] for column in order]
            for one, other in self.joins:
                if one[0] in words and other[0] in words:
                    mine = group_of(groups, one)
                    its = group_of(groups, other)
                    if mine != its:
                        groups = [group for group in groups if group not in (mine, its)] + [mine + its]
            ordered = [[column for column in order if column in group] for group in groups]
            self.tied[words] = [group for first in order for group in ordered if group[0] == first]
        return self.tied[words]

    def tied_to(self, words, column):
        """The list of the columns of a set that are tied to one of it, itself too."""
        return group_of(self.ties(words), column)


def group_of(groups, column):
    """The one of the groups that a column is in."""
    for group in groups:
        if column in group:
            return group
    return []
