"""Texts of programs and plans."""

from anyprice.kinds import are_sorts
from anyprice.lines import as_line, numbers_of_words, read_lines
from anyprice.plans import is_plan, is_step
from anyprice.programs import Program, is_rule_of
from anyprice.refusals import BadText


def write_program(program):
    """The text of a program."""
    lines = [as_line(["sorts"] + program.own_sorts())]
    for head, parts, own, how in program.all_rules():
        words = ["rule", head]
        for word, number in zip(how, own):
            words.extend([word, number])
        lines.append(as_line(words))
        for thing, times, extra in parts:
            lines.append(as_line(["part", thing, times] + list(extra)))
    return "".join(lines)


class ProgramLines:
    """The lines of a program's text, read one behind another."""

    def __init__(self):
        self.sorts = None
        self.rules = []

    def take_line(self, words):
        """Whether the words fit behind the lines that were taken; they are taken then."""
        if self.sorts is None:
            return self.take_sorts(words)
        if words[0] == "rule":
            return self.take_head(words[1:])
        return words[0] == "part" and len(self.rules) > 0 and self.take_part(words[1:])

    def take_sorts(self, words):
        """The first line."""
        if words[0] != "sorts" or not are_sorts(words[1:]):
            return False
        self.sorts = words[1:]
        return True

    def take_head(self, words):
        """A line that begins a rule: its head, and for each resource how, and its own number."""
        if len(words) != 1 + 2 * len(self.sorts):
            return False
        return self.take_rule_of((words[0], [], numbers_of_words(words[2::2]), words[1::2]), self.rules)

    def take_part(self, words):
        """A line of a part of the last rule."""
        numbers = numbers_of_words(words[1:])
        if not numbers:
            return False
        head, parts, own, how = self.rules[-1]
        return self.take_rule_of((head, parts + [(words[0], numbers[0], numbers[1:])], own, how), self.rules[:-1])

    def take_rule_of(self, rule, ahead):
        """Whether it is a rule, which stands behind those ahead then."""
        if not is_rule_of(self.sorts, rule):
            return False
        self.rules = ahead + [rule]
        return True


def read_program(text):
    """The program of a text."""
    taker = ProgramLines()
    many = read_lines(text, taker)
    if taker.sorts is None:
        raise BadText(many + 1)
    return Program(taker.sorts, taker.rules)


def write_plan(plan):
    """The text of a plan."""
    return "".join([as_line(["row", number] + list(below)) for number, below in plan])


class PlanLines:
    """The lines of a plan's text, read one behind another."""

    def __init__(self, program):
        self.rules = program.all_rules()
        self.heads = []
        self.steps = []

    def take_line(self, words):
        """Whether the words are a row that can stand behind those that were taken; it is taken then."""
        numbers = numbers_of_words(words[1:])
        if words[0] != "row" or not numbers:
            return False
        row = (numbers[0], tuple(numbers[1:]))
        if not is_step(self.rules, self.heads, row):
            return False
        self.steps.append(row)
        self.heads.append(self.rules[row[0]][0])
        return True


def read_plan(program, text):
    """The plan of the program that a text writes."""
    taker = PlanLines(program)
    many = read_lines(text, taker)
    if not is_plan(program, taker.steps):
        raise BadText(many + 1)
    return taker.steps
