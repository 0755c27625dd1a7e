"""Questions of a base: whether they are some, and how plain loops answer them."""

from anyprice.asked import Asked
from anyprice.kinds import is_int, is_list, is_list_of
from anyprice.refusals import BadQuestion
from anyprice.words import is_word


def are_sources(tables, thing):
    """Whether it is a list, not empty, of pairs of unlike words and names of tables."""
    if not is_list(thing) or len(thing) == 0:
        return False
    words = {}
    for source in thing:
        if not is_list_of(source, 2) or not is_word(source[0]) or source[0] in words:
            return False
        if not is_word(source[1]) or source[1] not in tables:
            return False
        words[source[0]] = True
    return True


def are_joins(asked, thing):
    """Whether it is a list of pairs of columns of two unlike sources, none twice, nor the other way round."""
    if not is_list(thing):
        return False
    known = {}
    for join in thing:
        if not is_list_of(join, 2) or not all([asked.has_column(column) for column in join]):
            return False
        one, other = tuple(join[0]), tuple(join[1])
        if one[0] == other[0] or (one, other) in known or (other, one) in known:
            return False
        known[(one, other)] = True
    return True


def are_picks(asked, thing):
    """Whether it is a list of unlike pairs of a column and an integer."""
    if not is_list(thing):
        return False
    known = {}
    for pick in thing:
        if not is_list_of(pick, 2) or not asked.has_column(pick[0]) or not is_int(pick[1]):
            return False
        if (tuple(pick[0]), pick[1]) in known:
            return False
        known[(tuple(pick[0]), pick[1])] = True
    return True


def is_question(base, thing):
    """Whether it is a question of the base."""
    if not is_list_of(thing, 5) or not are_sources(base.all_tables(), thing[0]):
        return False
    sources, joins, picks, shown, by = thing
    asked = Asked(base, (sources, (), (), (), None))
    if not are_joins(asked, joins) or not are_picks(asked, picks) or not is_list(shown) or len(shown) == 0:
        return False
    return all([asked.has_column(column) for column in shown]) and (by is None or asked.has_column(by))


def asked_of(base, question):
    """A question as it is worked with; BadQuestion for any object that is none."""
    if not is_question(base, question):
        raise BadQuestion(question)
    return Asked(base, question)


def rows_of(base, question, words):
    """The list of the rows of a set, those with lesser row numbers first, source by source."""
    asked = asked_of(base, question)
    return list(asked.rows(asked.checked_set(words)))


def answer_of(base, question):
    """The ascending list of what the rows of all sources have in the shown columns."""
    return asked_of(base, question).answer()
