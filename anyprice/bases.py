"""Bases: tables of integers, some columns of which are indexed."""

from anyprice.errors import BadNumber
from anyprice.kinds import is_list, is_list_of, is_number_below, is_row
from anyprice.refusals import BadRow, BadTable, NoTable
from anyprice.words import is_word


def are_unlike_words(thing):
    """Whether it is a list of words, none twice."""
    if not is_list(thing) or not all([is_word(word) for word in thing]):
        return False
    return len({word: True for word in thing}) == len(thing)


def is_table(thing):
    """Whether it is a triple of columns, rows and indexed columns."""
    if not is_list_of(thing, 3):
        return False
    columns, rows, indexed = thing
    if not are_unlike_words(columns) or len(columns) == 0 or not is_list(rows):
        return False
    if not all([is_row(row, len(columns)) for row in rows]):
        return False
    return are_unlike_words(indexed) and all([word in columns for word in indexed])


def as_table(table):
    """A table as tuples throughout, indexed columns in the order of the columns."""
    columns, rows, indexed = table
    return tuple(columns), tuple([tuple(row) for row in rows]), tuple([word for word in columns if word in indexed])


class Base:
    """Tables by words."""

    def __init__(self, tables):
        if not isinstance(tables, dict):
            raise BadTable(tables)
        for name in tables:
            if not is_word(name) or not is_table(tables[name]):
                raise BadTable(name)
        self._tables = {name: as_table(tables[name]) for name in sorted(tables)}

    def all_tables(self):
        """The dict, ascending, of the tables, tuples throughout."""
        return dict(self._tables)

    def _table_of(self, name):
        if not is_word(name) or name not in self._tables:
            raise NoTable(name)
        return self._tables[name]

    def with_row(self, name, row):
        """The base with a row more, behind the others of a table."""
        columns, rows, indexed = self._table_of(name)
        if not is_row(row, len(columns)):
            raise BadRow(row)
        return self._with_table(name, (columns, rows + (tuple(row),), indexed))

    def without_row(self, name, number):
        """The base without the row of this number in a table."""
        columns, rows, indexed = self._table_of(name)
        if not is_number_below(number, len(rows)):
            raise BadNumber(number)
        return self._with_table(name, (columns, rows[:number] + rows[number + 1:], indexed))

    def _with_table(self, name, table):
        tables = dict(self._tables)
        tables[name] = table
        return Base(tables)

    def __eq__(self, other):
        return isinstance(other, Base) and self._tables == other._tables
