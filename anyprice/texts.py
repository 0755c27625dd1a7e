"""Fronts of texts: what the best parses of a text take, by a program whose plans are the parses."""

from anyprice.grammars import check_text
from anyprice.kinds import is_amount
from anyprice.lookups import rules_by_head
from anyprice.products import grown, mixed
from anyprice.programs import Program
from anyprice.settling import fronts_of, settled_in
from anyprice.ways import plan_to

WHOLE = "all"


def text_front(grammar, name, text):
    """The ascending list of the amounts of parses of the name with this text that no other one's is under."""
    return list(fronts_of(text_program(grammar, name, text), [WHOLE])[WHOLE])


def text_program(grammar, name, text):
    """The program whose plans of "all" are the parses."""
    check_text(grammar, name, text)
    return Program(grammar.own_sorts(), [rule for rule, _ in read_rules(grammar, name, text)])


def parse_with(grammar, name, text, amount):
    """A straight parse with an amount of the text's front, None for any other object."""
    check_text(grammar, name, text)
    pairs = read_rules(grammar, name, text)
    rules = rules_by_head(Program(grammar.own_sorts(), [rule for rule, _ in pairs]))
    settled = settled_in(rules, [WHOLE])
    if not is_amount(amount) or tuple(amount) not in settled[0][WHOLE]:
        return None
    return parse_by([meaning for _, meaning in pairs], plan_to(rules, settled, (WHOLE, tuple(amount))))


def parse_by(meanings, plan):
    """The parse that a plan is, by what its rules mean."""
    made = []
    for number, below in plan:
        word, first, second = meanings[number]
        inner = [made[row] for row in below]
        if word == "leaf":
            made.append((first, second))
        elif word == "some":
            made.append((inner[0],) if len(inner) == 1 else inner[0] + (inner[1],))
        elif word == "tree":
            made.append((first, inner[0] if inner else ()))
        else:
            made.append((inner[0], first))
    return made[-1]


def read_rules(grammar, name, text):
    """The ascending pairs (rule of the program, what it means).

    It means ("all", the rest, ""), ("tree", number of a rule, ""), ("some", "", "") of a rule's parts, or
    ("leaf", ahead, got).
    """
    sorts = grammar.own_sorts()
    how = tuple(["sum" if sort == "flat" else "most" for sort in sorts])
    noughts = (0,) * len(sorts)
    rows = wholes_of(grammar, name, text, noughts) + leaves_over(grammar, text, noughts)
    for number, rule in enumerate(grammar.all_rules()):
        rows.extend(trees_over(number, rule, len(text)))
        rows.extend(parts_over(number, rule[1], len(text), noughts))
    return sorted([
        ((head, tuple([(thing, 1, extra) for thing, extra in parts]), own, how), meaning)
        for head, parts, own, meaning in rows
    ])


def over(word, start, end):
    """The thing that stands for what is read by this word from a place to another one."""
    return f"{word}.{start}.{end}"


def part_over(part, start, end):
    """The thing of a part of a grammar's rule."""
    return over(part[1] if part[0] == "name" else "-" + part[1], start, end)


def stretches_of_text(length):
    """The list of all pairs of places of a text, the first at most the second."""
    return [(start, end) for start in range(length + 1) for end in range(start, length + 1)]


def wholes_of(grammar, name, text, noughts):
    """The rows of "all": the name up to some place, and more signs behind it if these are let."""
    more = grammar.own_faults()[1]
    found = []
    for end in range(len(text) + 1):
        if more is not None or end == len(text):
            own = grown(more or noughts, len(text) - end)
            found.append((WHOLE, [(over(name, 0, end), noughts)], own, ("all", text[end:], "")))
    return found


def trees_over(number, rule, length):
    """The rows that make trees of a grammar's rule of all of its parts."""
    name, right, own, rise = rule
    meaning = ("tree", number, "")
    if not right:
        return [(over(name, place, place), [], own, meaning) for place in range(length + 1)]
    word = f"{number}.{len(right)}"
    return [
        (over(name, start, end), [(over(word, start, end), rise)], own, meaning)
        for start, end in stretches_of_text(length)
    ]


def parts_over(number, right, length, noughts):
    """The rows that put parts of a grammar's rule behind one another."""
    found = []
    for place, part in enumerate(right):
        word, former = f"{number}.{place + 1}", f"{number}.{place}"
        meaning = ("some", "", "")
        for start, end in stretches_of_text(length):
            if place == 0:
                found.append((over(word, start, end), [(part_over(part, start, end), noughts)], noughts, meaning))
            else:
                for middle in range(start, end + 1):
                    parts = [(over(former, start, middle), noughts), (part_over(part, middle, end), noughts)]
                    found.append((over(word, start, end), parts, noughts, meaning))
    return found


def leaves_over(grammar, text, noughts):
    """The rows of the signs in rules: the sign or another one stands last, or it lacks, as far as faults are let."""
    lacks, more, other = grammar.own_faults()
    signs = sorted({part[1] for rule in grammar.all_rules() for part in rule[1] if part[0] == "sign"})
    found = []
    for sign in signs:
        for start, end in stretches_of_text(len(text)):
            thing = over("-" + sign, start, end)
            if start < end and (more is not None or end - start == 1):
                ahead, got = text[start:end - 1], text[end - 1]
                fault = noughts if got == sign else other
                if fault is not None:
                    own = mixed(fault, 1, more or noughts, len(ahead))
                    found.append((thing, [], own, ("leaf", ahead, got)))
            if lacks is not None and (more is not None or end == start):
                own = mixed(lacks, 1, more or noughts, end - start)
                found.append((thing, [], own, ("leaf", text[start:end], "")))
    return found
