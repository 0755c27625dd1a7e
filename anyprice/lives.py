"""Live programs: they change by deeds that can be taken back and done again, and tell what changed."""

from anyprice.lookups import check_thing
from anyprice.stages import Stage, changes_between


class Live:
    """A program that changes.

    It goes along a line of stages, from each of which a deed (its name, the head whose rules change) leads to the
    next one. The line is never changed in place, so that a twin, and what is put back, can share it.
    """

    def __init__(self, program):
        self._stages = (Stage(program, None, None),)
        self._deeds = ()
        self._place = 0
        self._last = None

    def program_now(self):
        """The program as it is now."""
        return self._stages[self._place].program

    def put_rule(self, number, rule):
        """Put in a rule that gets the number."""
        self._go_to("put_rule", self.program_now().with_rule(number, rule), rule[0])

    def take_rule(self, number):
        """Take out the rule of this number."""
        program = self.program_now().without_rule(number)
        self._go_to("take_rule", program, self._head_of(number))

    def new_own(self, number, own):
        """Give the rule of this number another own amount."""
        program = self.program_now().with_own(number, own)
        self._go_to("new_own", program, self._head_of(number))

    def _head_of(self, number):
        return self.program_now().all_rules()[number][0]

    def _go_to(self, name, program, head):
        """Do a deed: what lay ahead can be done again no more."""
        further = Stage(program, self._stages[self._place], head)
        self._stages = self._stages[:self._place + 1] + (further,)
        self._deeds = self._deeds[:self._place] + ((name, head),)
        self._step_to(self._place + 1)

    def _step_to(self, place):
        """Go to the next stage, or to the one before."""
        self._last = (self._place, place)
        self._place = place

    def front_now(self, thing):
        """The front of the thing as the program is now."""
        check_thing(self.program_now(), thing)
        return list(self._stages[self._place].fronts_for([thing])[thing])

    def last_changes(self):
        """What went, what came and what turned by the last deed, undoing or doing again."""
        if self._last is None:
            return {"gone": [], "new": [], "turned": []}
        before, behind = self._last
        head = self._deeds[min(before, behind)][1]
        return changes_between(self._stages[before], self._stages[behind], head)

    def undo(self):
        """Take back the last deed that is not taken back; its name, None if there is none."""
        if self._place == 0:
            return None
        self._step_to(self._place - 1)
        return self._deeds[self._place][0]

    def again(self):
        """Do again the deed that was taken back last; its name, None if there is none."""
        if self._place == len(self._deeds):
            return None
        self._step_to(self._place + 1)
        return self._deeds[self._place - 1][0]

    def deeds_done(self):
        """How many deeds are done and not taken back."""
        return self._place

    def twin(self):
        """Another one that is the same, with what lies back and ahead, and goes on by itself."""
        other = Live(self.program_now())
        other._stages = self._stages
        other._deeds = self._deeds
        other._place = self._place
        other._last = self._last
        return other

    def try_out(self, work):
        """What the function returns that gets this one itself; behind it all is as ahead."""
        stages, deeds, place, last = self._stages, self._deeds, self._place, self._last
        try:
            return work(self)
        finally:
            self._stages, self._deeds, self._place, self._last = stages, deeds, place, last

    def __eq__(self, other):
        return isinstance(other, Live) and self.program_now() == other.program_now()
