"""What a program that changes is for a while, with those of its fronts that were asked for."""

from anyprice.lookups import coming_to, rules_by_head
from anyprice.settling import further_fronts


class Stage:
    """A program, its rules by heads, and its fronts as far as they are known.

    The stage ahead of it, if there is one, has other rules of one head alone.
    """

    def __init__(self, program, former, head):
        self.program = program
        self.rules = rules_by_head(program)
        self.fronts = {}
        self.former = former
        self.head = head

    def fronts_for(self, things):
        """The fronts that are known, the things' among them."""
        if not all([thing in self.fronts for thing in things]):
            former = {} if self.former is None else self.former.fronts
            self.fronts = further_fronts(self.rules, things, self.fronts, former, self.head)
        return self.fronts

    def things_above(self, head):
        """The dict of True from the head and all that come to it by parts, {} if it is no thing of the program."""
        return coming_to(self.rules, head) if head in self.rules else {}


def changes_between(one, other, head):
    """The dict of the things that went, that came, and that turned, from a stage to another one, by rules of a head."""
    gone = [thing for thing in one.rules if thing not in other.rules]
    new = [thing for thing in other.rules if thing not in one.rules]
    touched = one.things_above(head)
    for thing in other.things_above(head):
        touched[thing] = True
    both = sorted([thing for thing in touched if thing in one.rules and thing in other.rules])
    olds, news = one.fronts_for(both), other.fronts_for(both)
    turned = []
    for thing in both:
        if olds[thing] != news[thing]:
            turned.append((thing, left_out(olds[thing], news[thing]), left_out(news[thing], olds[thing])))
    return {"gone": gone, "new": new, "turned": turned}


def left_out(amounts, others):
    """Those of the amounts that are none of the others."""
    return [amount for amount in amounts if amount not in others]
