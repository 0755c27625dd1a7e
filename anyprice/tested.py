"""Tested questions: questions whose sources' rows are to meet tests by trees of numbers."""

from anyprice.asked import Asked
from anyprice.kinds import is_list, is_list_of, is_number_below
from anyprice.questions import is_question
from anyprice.refusals import BadTested, BadTests
from anyprice.trees import is_tree, variables_of

WHOLE_MODES = ("left", "right")


def is_test(asked, thing):
    """Whether it is a pair of a source's word and a tree all of whose variables are columns of its table."""
    if not is_list_of(thing, 2) or not asked.has_word(thing[0]) or not is_tree(thing[1]):
        return False
    columns = asked.tables[thing[0]][0]
    return all([word in columns for word in variables_of(thing[1])])


def is_tested(base, thing):
    """Whether it is a pair of a question of the base and a list of tests."""
    if not is_list_of(thing, 2) or not is_question(base, thing[0]) or not is_list(thing[1]):
        return False
    asked = Asked(base, thing[0])
    return all([is_test(asked, test) for test in thing[1]])


def asked_with_tests(base, tested):
    """A tested question as it is worked with; BadTested for any object that is none."""
    if not is_tested(base, tested):
        raise BadTested(tested)
    return Asked(base, tested[0], tested[1], WHOLE_MODES)


def are_numbers_of_tests(asked, words, thing):
    """Whether it is an ascending list of unlike numbers of tests of sources of a set."""
    if not is_list(thing) or not all([is_number_below(number, len(asked.tests)) for number in thing]):
        return False
    if not all([asked.tests[number][0] in words for number in thing]):
        return False
    return all([number < further for number, further in zip(thing, thing[1:])])


def tested_rows(base, tested, words, numbers):
    """The list of the rows of a set that meet the tests with these numbers, in the order of rows_of."""
    asked = asked_with_tests(base, tested)
    whole = asked.checked_set(words)
    if not are_numbers_of_tests(asked, whole, numbers):
        raise BadTests(numbers)
    return list(asked.rows(whole, tuple(numbers)))


def tested_answer(base, tested):
    """The answer of the rows that meet all tests."""
    asked = asked_with_tests(base, tested)
    return asked.answer(tuple(range(len(asked.tests))))
