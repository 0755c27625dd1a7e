"""The errors of choices, grammars, bases, machines, wholes and texts: each keeps what it is made with."""

from anyprice.errors import PlanError


class BadChoice(PlanError):
    """The thing at this index is no choice."""

    def __init__(self, index):
        self.index = index


class Unexplained(PlanError):
    """No prices above 0 explain the choices."""


class BadPiece(PlanError):
    """The thing at this index is no corner of a piece."""

    def __init__(self, index):
        self.index = index


class BadShare(PlanError):
    """It is no share."""

    def __init__(self, share):
        self.share = share


class BadFaults(PlanError):
    """They are no faults."""

    def __init__(self, faults):
        self.faults = faults


class NoName(PlanError):
    """It is no name of the grammar."""

    def __init__(self, name):
        self.name = name


class BadSigns(PlanError):
    """It is no string of signs."""

    def __init__(self, signs):
        self.signs = signs


class BadParse(PlanError):
    """It is no parse."""

    def __init__(self, parse):
        self.parse = parse


class BadTable(PlanError):
    """It is no table."""

    def __init__(self, thing):
        self.thing = thing


class NoTable(PlanError):
    """It is no name of a table."""

    def __init__(self, name):
        self.name = name


class BadRow(PlanError):
    """It is no such row."""

    def __init__(self, row):
        self.row = row


class BadQuestion(PlanError):
    """It is no question of the base."""

    def __init__(self, question):
        self.question = question


class BadSet(PlanError):
    """They are no set of sources."""

    def __init__(self, words):
        self.words = words


class BadTree(PlanError):
    """It is no such tree."""

    def __init__(self, tree):
        self.tree = tree


class BadValues(PlanError):
    """There is no integer for this word."""

    def __init__(self, word):
        self.word = word


class BadInstruction(PlanError):
    """The thing at this index is no further instruction."""

    def __init__(self, index):
        self.index = index


class NoInstruction(PlanError):
    """It is no word of an instruction of the machine."""

    def __init__(self, word):
        self.word = word


class Unplain(PlanError):
    """The machine is not plain without the instruction."""


class BadRows(PlanError):
    """The thing at this index is no row that can stand there."""

    def __init__(self, index):
        self.index = index


class BadCode(PlanError):
    """The result of the row at this index is not read as in code."""

    def __init__(self, index):
        self.index = index


class BadTested(PlanError):
    """It is no tested question of the base."""

    def __init__(self, tested):
        self.tested = tested


class BadTests(PlanError):
    """They are no numbers of tests of the set."""

    def __init__(self, numbers):
        self.numbers = numbers


class BadMachine(PlanError):
    """It is no machine."""

    def __init__(self, machine):
        self.machine = machine


class BadWhole(PlanError):
    """It is no whole."""

    def __init__(self, whole):
        self.whole = whole


class Uncoded(PlanError):
    """The test with this number has no code within the registers."""

    def __init__(self, number):
        self.number = number


class BadText(PlanError):
    """This line is where the text goes wrong."""

    def __init__(self, line):
        self.line = line


class BadWord(PlanError):
    """It is no word for a question to be watched by."""

    def __init__(self, word):
        self.word = word


class NotWatched(PlanError):
    """It is no word by which a question is watched."""

    def __init__(self, word):
        self.word = word
