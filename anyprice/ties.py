"""Ties: columns that have the same integer in each row of a set; and questions closed under them."""

from anyprice.asked import group_of
from anyprice.questions import asked_of


def tied_columns(base, question, words):
    """The list of the lists of two or more columns of a set that are tied with one another."""
    asked = asked_of(base, question)
    return [group for group in asked.ties(asked.checked_set(words)) if len(group) > 1]


def closed_question(base, question):
    """The question with all joins between tied columns of unlike sources, and picks on all that are tied."""
    asked = asked_of(base, question)
    joins, picks = list(asked.joins), list(asked.picks)
    groups = asked.ties(asked.whole_set())
    for column in asked.columns_in(asked.whole_set()):
        group = group_of(groups, column)
        for other in group[group.index(column) + 1:]:
            if other[0] != column[0] and (column, other) not in joins and (other, column) not in joins:
                joins.append((column, other))
        numbers = sorted({number for picked, number in asked.picks if picked in group})
        picks.extend([(column, number) for number in numbers if (column, number) not in asked.picks])
    return list(asked.sources), joins, picks, list(asked.shown), asked.by
