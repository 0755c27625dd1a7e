"""Live programs: they change by deeds that can be taken back and done again, and tell what changed."""

from anyprice.courses import begun_with
from anyprice.lookups import check_thing
from anyprice.stages import Stage, changes_between


class Live:
    """A program that changes, by deeds that lead along a course of stages."""

    def __init__(self, program):
        self._course = begun_with(Stage(program, None, None))

    def program_now(self):
        """The program as it is now."""
        return self._course.now().program

    def put_rule(self, number, rule):
        """Put in a rule that gets the number."""
        self._go_to("put_rule", self.program_now().with_rule(number, rule), rule[0])

    def take_rule(self, number):
        """Take out the rule of this number."""
        program = self.program_now().without_rule(number)
        self._go_to("take_rule", program, self._head_of(number))

    def new_own(self, number, own):
        """Give the rule of this number another own amount."""
        program = self.program_now().with_own(number, own)
        self._go_to("new_own", program, self._head_of(number))

    def _head_of(self, number):
        return self.program_now().all_rules()[number][0]

    def _go_to(self, name, program, head):
        """Do a deed that changes the rules of a head."""
        self._course = self._course.with_deed(name, Stage(program, self._course.now(), head))

    def front_now(self, thing):
        """The front of the thing as the program is now."""
        check_thing(self.program_now(), thing)
        return list(self._course.now().fronts_for([thing])[thing])

    def last_changes(self):
        """What went, what came and what turned by the last deed, undoing or doing again."""
        before, behind = self._course.stage_before(), self._course.now()
        if before is None:
            return {"gone": [], "new": [], "turned": []}
        later = self._course.stages[max(self._course.place, self._course.came_from)]
        return changes_between(before, behind, later.head)

    def undo(self):
        """Take back the last deed that is not taken back; its name, None if there is none."""
        return self._step_by(-1)

    def again(self):
        """Do again the deed that was taken back last; its name, None if there is none."""
        return self._step_by(1)

    def _step_by(self, step):
        further = self._course.stepped_by(step)
        if further is None:
            return None
        self._course = further
        return further.last_deed()

    def deeds_done(self):
        """How many deeds are done and not taken back."""
        return self._course.place

    def twin(self):
        """Another one that is the same, with what lies back and ahead, and goes on by itself."""
        other = Live(self.program_now())
        other._course = self._course
        return other

    def try_out(self, work):
        """What the function returns that gets this one itself; behind it all is as ahead."""
        course = self._course
        try:
            return work(self)
        finally:
            self._course = course

    def __eq__(self, other):
        return isinstance(other, Live) and self.program_now() == other.program_now()
