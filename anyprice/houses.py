"""Houses: bases that change, with questions that are watched: their best wholes stay right."""

from anyprice.checks import check_prices_of
from anyprice.courses import begun_with
from anyprice.housestages import HouseStage, as_tested
from anyprice.products import product_of
from anyprice.refusals import BadWord, NotWatched
from anyprice.setting import Setting, check_machine
from anyprice.wholeplans import WholePlans
from anyprice.words import is_word


class House:
    """A base that changes, a machine, a bound on registers, and tested questions that are watched.

    Deeds lead along a course of stages.
    """

    def __init__(self, base, machine, registers):
        check_machine(machine, registers)
        self._machine = machine
        self._registers = registers
        self._course = begun_with(HouseStage(base, {}, None, None))

    def _now(self):
        return self._course.now()

    def _check_watched(self, word):
        if not is_word(word) or word not in self._now().questions:
            raise NotWatched(word)

    def watch(self, word, tested):
        """Watch a tested question by a word."""
        now = self._now()
        if not is_word(word) or word in now.questions:
            raise BadWord(word)
        kept = as_tested(now.base, tested)
        plans = WholePlans(Setting(now.base, kept, self._machine, self._registers))
        questions = {name: now.questions[name] for name in now.questions}
        questions[word] = kept
        further = HouseStage(now.base, questions, now, None)
        further.plans[word] = plans
        self._go_to("watch", further)

    def unwatch(self, word):
        """Watch the question of this word no more."""
        self._check_watched(word)
        now = self._now()
        questions = {name: now.questions[name] for name in now.questions if name != word}
        self._go_to("unwatch", HouseStage(now.base, questions, now, None))

    def put_row(self, name, row):
        """Put a row behind the others of a table."""
        now = self._now()
        self._go_to("put_row", HouseStage(now.base.with_row(name, row), now.questions, now, name))

    def take_row(self, name, number):
        """Take the row of this number out of a table."""
        now = self._now()
        self._go_to("take_row", HouseStage(now.base.without_row(name, number), now.questions, now, name))

    def _go_to(self, name, further):
        self._course = self._course.with_deed(name, further)

    def base_now(self):
        """The base as it is now."""
        return self._now().base

    def watched(self):
        """The ascending dict from words to tested questions, tuples throughout."""
        questions = self._now().questions
        return {word: questions[word] for word in sorted(questions)}

    def _plans_now(self, word):
        self._check_watched(word)
        return self._now().plans_for(word, self._machine, self._registers)

    def front_now(self, word):
        """The front of a watched question's wholes as the base is now."""
        return list(self._plans_now(word).joined.settle())

    def answer_now(self, word):
        """The answer of a watched question as the base is now."""
        asked = self._plans_now(word).setting.asked
        return asked.answer(tuple(range(len(asked.tests))))

    def whole_now(self, word, prices):
        """A whole of a watched question of least cost as the base is now."""
        self._check_watched(word)
        check_prices_of(3, prices)
        return self._plans_now(word).best_at(prices)

    def still_best(self, word, whole, prices):
        """Whether a whole of a watched question is one of least cost as the base is now."""
        self._check_watched(word)
        check_prices_of(3, prices)
        plans = self._plans_now(word)
        if not plans.setting.is_right(whole):
            return False
        least = min([product_of(amount, prices) for amount in plans.joined.settle()])
        return product_of(plans.setting.amount_of(whole), prices) == least

    def last_changes(self):
        """The ascending list of the watched words whose fronts turned by the last deed, undoing or doing again."""
        before, behind = self._course.stage_before(), self._now()
        if before is None:
            return []
        return sorted([word for word in behind.questions if self._is_turned(before, behind, word)])

    def _is_turned(self, before, behind, word):
        if word not in before.questions:
            return True
        fronts = [stage.plans_for(word, self._machine, self._registers).joined.settle() for stage in (before, behind)]
        return fronts[0] != fronts[1]

    def undo_last(self):
        """Take back the last deed that is not taken back; its name, None if there is none."""
        return self._step_by(-1)

    def do_again(self):
        """Do again the deed that was taken back last; its name, None if there is none."""
        return self._step_by(1)

    def _step_by(self, step):
        further = self._course.stepped_by(step)
        if further is None:
            return None
        self._course = further
        return further.last_deed()

    def deeds_done(self):
        """How many deeds are done and not taken back."""
        return self._course.place

    def twin_house(self):
        """Another one that is the same, with what lies back and ahead, and goes on by itself."""
        other = House(self.base_now(), self._machine, self._registers)
        other._course = self._course
        return other

    def try_out(self, work):
        """What the function returns that gets the house itself; behind it all is as ahead."""
        course = self._course
        try:
            return work(self)
        finally:
            self._course = course

    def __eq__(self, other):
        if not isinstance(other, House) or self.base_now() != other.base_now():
            return False
        return (self._machine, self._registers, self.watched()) == (other._machine, other._registers, other.watched())
