"""Courses: stages one behind another, from each of which a deed leads to the next one, and where one is among them."""


class Course:
    """A line of stages and the names of the deeds between them, the place that one is at, and where one came from.

    It is never changed: each step is told as another one. So those that keep one can share it, and put it back.
    """

    def __init__(self, stages, deeds, place, came_from):
        self.stages = stages
        self.deeds = deeds
        self.place = place
        self.came_from = came_from

    def now(self):
        """The stage that one is at."""
        return self.stages[self.place]

    def with_deed(self, name, stage):
        """The course that a deed leads to: what lay ahead can be done again no more."""
        stages = self.stages[:self.place + 1] + (stage,)
        return Course(stages, self.deeds[:self.place] + (name,), self.place + 1, self.place)

    def stepped_by(self, step):
        """The course one step further, or one back; None if there is no stage."""
        place = self.place + step
        if not 0 <= place < len(self.stages):
            return None
        return Course(self.stages, self.deeds, place, self.place)

    def last_deed(self):
        """The name of the deed over which one came."""
        return self.deeds[min(self.place, self.came_from)]

    def stage_before(self):
        """The stage that one came from, None if one did not move yet."""
        return None if self.came_from is None else self.stages[self.came_from]


def begun_with(stage):
    """The course that has this stage alone."""
    return Course((stage,), (), 0, None)
