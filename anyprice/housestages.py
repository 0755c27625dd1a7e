"""What a house is for a while: its base, the questions that it watches, and their best wholes as far as asked for."""

from anyprice.setting import Setting
from anyprice.tested import asked_with_tests
from anyprice.wholeplans import WholePlans


def as_tested(base, tested):
    """A tested question as tuples throughout; BadTested for any object that is none."""
    asked = asked_with_tests(base, tested)
    question = (tuple(asked.sources), tuple(asked.joins), tuple(asked.picks), tuple(asked.shown), asked.by)
    return question, tuple(asked.tests)


class HouseStage:
    """A base and watched questions, a dict from words; machine and registers are those of the house.

    The stage ahead, if there is one, is the same but for one table, or for one question.
    """

    def __init__(self, base, questions, former, table):
        self.base = base
        self.questions = questions
        self.former = former
        self.table = table
        self.plans = {}

    def plans_for(self, word, machine, registers):
        """The plans of the wholes of a watched question, worked out once."""
        if word not in self.plans:
            if self.is_as_ahead(word):
                self.plans[word] = self.former.plans_for(word, machine, registers)
            else:
                self.plans[word] = WholePlans(Setting(self.base, self.questions[word], machine, registers))
        return self.plans[word]

    def is_as_ahead(self, word):
        """Whether the question was watched in the stage ahead, and no source of it is in the table that was changed."""
        if self.former is None or self.former.questions.get(word, None) != self.questions[word]:
            return False
        return self.table not in [name for _, name in self.questions[word][0][0]]
