"""Promise 2.2 and the interface's lists of errors."""

import inspect
import unittest

import anyprice.errors
import anyprice.refusals
from anyprice.errors import PlanError
from helpers import EXAMPLE, some_function

ERRORS = """BadSorts(sorts), BadRule(index), BadNumber(number), BadAmount(amount), BadAmounts(index), BadThing(thing),
NoThing(thing), BadPlan(plan), UnlikeThings(), BadPrices(prices), BadMix(mix), BadCuts(index), BadCorners(index),
NoAmount(amount), BadBudget(budget), BadTaste(taste), NotTimes(number), BadBounds(bounds), BadKind(kind), BadHead(head),
NoPlan(thing), BadPlace(place), BadHoles(index), BadHole(hole), BadFilling(index), BadUnits(units), BadSketch(sketch),
BadHighs(highs), BadAnswer(index)"""

REFUSALS = """BadChoice(index), Unexplained(), BadPiece(index), BadShare(share), BadFaults(faults), NoName(name),
BadSigns(signs), BadParse(parse), BadTable(thing), NoTable(name), BadRow(row), BadQuestion(question), BadSet(words),
BadTree(tree), BadValues(word), BadInstruction(index), NoInstruction(word), Unplain(), BadRows(index), BadCode(index),
BadTested(tested), BadTests(numbers), BadMachine(machine), BadWhole(whole), Uncoded(number), BadText(line),
BadWord(word), NotWatched(word)"""


def listed(text):
    """The pairs (class name, name of its parameter or None) of a list as the interface writes it."""
    pairs = []
    for entry in text.replace("\n", " ").split(", "):
        name, _, rest = entry.partition("(")
        pairs.append((name, rest.rstrip(")") or None))
    return pairs


class Errors(unittest.TestCase):

    def check(self, module, text):
        for name, parameter in listed(text):
            with self.subTest(name):
                error = getattr(module, name)
                self.assertEqual(error.__module__, module.__name__)
                self.assertEqual(error.__bases__, (PlanError,))
                self.check_kept(error, parameter)

    def check_kept(self, error, parameter):
        if parameter is None:
            self.assertIsInstance(error(), error)
            return
        self.assertEqual(list(inspect.signature(error).parameters), [parameter])
        for thing in (None, True, 0, 10 ** 40, "a", [], [1, [2]], (1, [2]), {"a": []}, some_function, EXAMPLE):
            self.assertIs(getattr(error(thing), parameter), thing)
            self.assertIs(getattr(error(**{parameter: thing}), parameter), thing)
            self.assertIsInstance(str(error(thing)), str)

    def test_all_of_the_first_list(self):
        self.assertEqual(len(listed(ERRORS)), 29)
        self.check(anyprice.errors, ERRORS)

    def test_all_of_the_second_list(self):
        self.assertEqual(len(listed(REFUSALS)), 28)
        self.check(anyprice.refusals, REFUSALS)

    def test_plan_error_is_a_value_error(self):
        self.assertEqual(PlanError.__bases__, (ValueError,))
        self.assertEqual(PlanError.__module__, "anyprice.errors")

    def test_a_kept_thing_is_no_copy(self):
        thing = [1]
        error = anyprice.errors.BadPlan(thing)
        thing.append(2)
        self.assertEqual(error.plan, [1, 2])

    def test_each_can_be_raised_and_caught_as_a_plan_error(self):
        for module, text in ((anyprice.errors, ERRORS), (anyprice.refusals, REFUSALS)):
            for name, parameter in listed(text):
                with self.assertRaises(PlanError):
                    raise getattr(module, name)(*([] if parameter is None else [3]))


if __name__ == "__main__":
    unittest.main()
