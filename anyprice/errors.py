"""The errors of programs, prices, plans and fronts: each keeps what it is made with."""


class PlanError(ValueError):
    """Something that was passed is not what the document asks for."""


class BadSorts(PlanError):
    """It is no list of one to three words "flat", "high"."""

    def __init__(self, sorts):
        self.sorts = sorts


class BadRule(PlanError):
    """The thing at this index is no rule."""

    def __init__(self, index):
        self.index = index


class BadNumber(PlanError):
    """It is no such number."""

    def __init__(self, number):
        self.number = number


class BadAmount(PlanError):
    """It is no such amount."""

    def __init__(self, amount):
        self.amount = amount


class BadAmounts(PlanError):
    """The thing at this index is no such amount."""

    def __init__(self, index):
        self.index = index


class BadThing(PlanError):
    """It is no thing."""

    def __init__(self, thing):
        self.thing = thing


class NoThing(PlanError):
    """It is no thing of the program."""

    def __init__(self, thing):
        self.thing = thing


class BadPlan(PlanError):
    """It is no such plan."""

    def __init__(self, plan):
        self.plan = plan


class UnlikeThings(PlanError):
    """The row is had for another thing than the plan that is put in."""


class BadPrices(PlanError):
    """They are no such prices."""

    def __init__(self, prices):
        self.prices = prices


class BadMix(PlanError):
    """It is no mix."""

    def __init__(self, mix):
        self.mix = mix


class BadCuts(PlanError):
    """The thing at this index is no cut."""

    def __init__(self, index):
        self.index = index


class BadCorners(PlanError):
    """The thing at this index is no corner."""

    def __init__(self, index):
        self.index = index


class NoAmount(PlanError):
    """It is no amount of those that are asked for."""

    def __init__(self, amount):
        self.amount = amount


class BadBudget(PlanError):
    """It is no budget."""

    def __init__(self, budget):
        self.budget = budget


class BadTaste(PlanError):
    """It is no taste."""

    def __init__(self, taste):
        self.taste = taste


class NotTimes(PlanError):
    """The rule with this number says another word than "times"."""

    def __init__(self, number):
        self.number = number


class BadBounds(PlanError):
    """They are no bounds."""

    def __init__(self, bounds):
        self.bounds = bounds


class BadKind(PlanError):
    """It is no kind."""

    def __init__(self, kind):
        self.kind = kind


class BadHead(PlanError):
    """It is no head of a surrounding."""

    def __init__(self, head):
        self.head = head


class NoPlan(PlanError):
    """The thing has no plan."""

    def __init__(self, thing):
        self.thing = thing


class BadPlace(PlanError):
    """It is no place of a part."""

    def __init__(self, place):
        self.place = place


class BadHoles(PlanError):
    """The thing at this index is no further hole."""

    def __init__(self, index):
        self.index = index


class BadHole(PlanError):
    """It is no hole."""

    def __init__(self, hole):
        self.hole = hole


class BadFilling(PlanError):
    """The thing at this index is no rule that can fill the program."""

    def __init__(self, index):
        self.index = index


class BadUnits(PlanError):
    """They are no units."""

    def __init__(self, units):
        self.units = units


class BadSketch(PlanError):
    """It is no sketch of a rule."""

    def __init__(self, sketch):
        self.sketch = sketch


class BadHighs(PlanError):
    """They are no numbers for the high resources."""

    def __init__(self, highs):
        self.highs = highs


class BadAnswer(PlanError):
    """The answer with this number is none that a box can give."""

    def __init__(self, index):
        self.index = index
