"""Promises 14.3 to 14.5: fronts of texts, straight parses, and the program whose plans the parses are."""

import unittest

from anyprice.errors import NoAmount
from anyprice.fronts import front
from anyprice.grammars import Grammar
from anyprice.heights import how_many
from anyprice.hulls import hull, prices_for, standing
from anyprice.maps import map_of
from anyprice.parses import is_parse, mended, parse_amount
from anyprice.programs import Program
from anyprice.refusals import BadSigns, NoName
from anyprice.texts import parse_with, text_front, text_program
from anyprice.tops import plan_of
from helpers import EXAMPLE, NO_AMOUNTS, Case, chance_of, is_under, plain_least, swapped
from test_grammars import FAULTS, NESTS, RULES, SORTS
from test_parses import NO_SIGNS, plain_amount, plain_parses, some_grammar


def plain_text_rules(grammar, name, text):
    """The rules by the words of 14.4, each as often as it comes."""
    sorts = grammar.own_sorts()
    lacks, more, other = grammar.own_faults()
    length = len(text)
    nought = (0,) * len(sorts)
    how = tuple("sum" if sort == "flat" else "most" for sort in sorts)
    rules = []

    def row(head, parts, own=nought):
        rules.append((head, tuple((thing, 1, extra) for thing, extra in parts), tuple(own), how))

    def over(part, i, j):
        return f"{part[1]}.{i}.{j}" if part[0] == "name" else f"-{part[1]}.{i}.{j}"

    def times(fault, often):
        return tuple(number * often for number in fault) if often else nought

    def plus(one, beside):
        return tuple(a + b for a, b in zip(one, beside))

    for j in range(length + 1):
        if j == length or more is not None:
            row("all", [(f"{name}.0.{j}", nought)], times(more, length - j))
    places = [(i, j) for i in range(length + 1) for j in range(i, length + 1)]
    for k, (w, right, own, rise) in enumerate(grammar.all_rules()):
        m = len(right)
        if m == 0:
            for i in range(length + 1):
                row(f"{w}.{i}.{i}", [], own)
        for i, j in places if m else []:
            row(f"{w}.{i}.{j}", [(f"{k}.{m}.{i}.{j}", rise)], own)
            row(f"{k}.1.{i}.{j}", [(over(right[0], i, j), nought)])
            for d in range(2, m + 1):
                for h in range(i, j + 1):
                    row(f"{k}.{d}.{i}.{j}", [(f"{k}.{d - 1}.{i}.{h}", nought), (over(right[d - 1], h, j), nought)])
    for s in {part[1] for rule in grammar.all_rules() for part in rule[1] if part[0] == "sign"}:
        for i, j in places:
            if i < j and (more is not None or j - i == 1) and (text[j - 1] == s or other is not None):
                row(f"-{s}.{i}.{j}", [], plus(times(more, j - i - 1), nought if text[j - 1] == s else other))
            if lacks is not None and (more is not None or i == j):
                row(f"-{s}.{i}.{j}", [], plus(times(more, j - i), lacks))
    return sorted(rules)


def is_straight_parse(grammar, tree, start, above=()):
    """Whether no tree stands in another one of its name over its stretch: the end of the stretch, None if one does."""
    def text_of(number, things):
        found = ""
        for part, thing in zip(grammar.all_rules()[number][1], things):
            found += thing[0] + thing[1] if part[0] == "sign" else text_of(*thing)
        return found

    name, right = grammar.all_rules()[tree[0]][:2]
    stretch = (name, start, start + len(text_of(*tree)))
    if stretch in above:
        return False
    place = start
    for part, thing in zip(right, tree[1]):
        if part[0] == "sign":
            place += len(thing[0] + thing[1])
        else:
            if not is_straight_parse(grammar, thing, place, above + (stretch,)):
                return False
            place += len(text_of(*thing))
    return True


class Texts(Case):

    def check(self, grammar, name, text):
        """That the front is that of all straight parses, and each of its amounts that of a straight parse that is told."""
        parses = plain_parses(grammar, name, text)
        expected = plain_least(plain_amount(grammar, parse) for parse in parses)
        self.tells(expected, text_front, grammar, name, text)
        self.check_parses(grammar, name, text, expected)
        return expected

    def check_parses(self, grammar, name, text, amounts):
        for amount in amounts:
            parse = self.told(parse_with, grammar, name, text, amount)
            self.assertTrue(is_parse(grammar, name, text, parse))
            self.assertEqual(parse_amount(grammar, parse), amount)
            self.assertTrue(is_straight_parse(grammar, parse[0], 0))
            self.check_tuples(parse)

    def check_tuples(self, thing):
        if not isinstance(thing, (int, str)):
            self.assertIs(type(thing), tuple)
            for inner in thing:
                self.check_tuples(inner)

    def test_the_example(self):
        self.tells([(1, 2), (3, 1)], text_front, NESTS, "s", "aab")
        self.assertEqual(self.check(NESTS, "s", "aab"), [(1, 2), (3, 1)])
        self.assertEqual(mended(NESTS, parse_with(NESTS, "s", "aab", (1, 2))), "ab")
        self.tells(((1, ()), "aab"), parse_with, NESTS, "s", "aab", (3, 1))
        program = text_program(NESTS, "s", "aab")
        self.assertEqual(len(program), 94)
        self.assertIsNone(how_many(program, "all", 10 ** 6))
        for amount in ((1, 2), (3, 1)):
            self.assertEqual(standing(program, "all", amount), "alone")
        # (1, 2) up to twice as dear a depth as a fault, (3, 1) from there on.
        self.assertEqual(map_of(program, "all"), {(1, 2): [(1, 0), (1, 2)], (3, 1): [(0, 1), (1, 2)]})
        self.assertIsNotNone(prices_for(program, "all", (1, 2)))

    def test_the_empty_text(self):
        self.tells([(0, 1)], text_front, NESTS, "s", "")
        self.tells(((1, ()), ""), parse_with, NESTS, "s", "", (0, 1))
        bare = Grammar(["flat"], [("s", [("sign", "a")], (1,), (0,))], (None, None, None))
        self.tells([], text_front, bare, "s", "")
        self.tells([(1,)], text_front, bare, "s", "a")
        lacking = Grammar(["flat"], [("s", [("sign", "a")], (1,), (0,))], ((5,), None, None))
        self.tells([(6,)], text_front, lacking, "s", "")
        self.tells(((0, (("", ""),)), ""), parse_with, lacking, "s", "", (6,))

    def test_names_that_no_rule_has(self):
        grammar = Grammar(["flat"], [("s", [("name", "t")], (1,), (0,))], ((0,), (0,), (0,)))
        for name in ("s", "t"):
            for text in ("", "ab"):
                self.tells([], text_front, grammar, name, text)
                self.assertIsNone(parse_with(grammar, name, text, (0,)))
                self.assertEqual(front(text_program(grammar, name, text), "all"), [])

    def test_names_that_ask_themselves(self):
        # s beside what stands for nothing; t and u in a ring.
        grammar = Grammar(["flat", "high"], [
            ("s", [("name", "s"), ("name", "s")], (0, 0), (0, 1)), ("s", [("sign", "a")], (1, 0), (0, 0)), ("s", [], (2, 1), (0, 0)),
            ("t", [("name", "u")], (0, 0), (0, 0)), ("u", [("name", "t")], (0, 0), (0, 0)), ("u", [("sign", "b")], (3, 3), (0, 0)),
        ], (None, None, None))
        for name, text in (("s", ""), ("s", "a"), ("s", "aaa"), ("t", "b"), ("u", "b"), ("t", "a"), ("s", "b")):
            self.check(grammar, name, text)
        self.tells([(3, 2)], text_front, grammar, "s", "aaa")
        self.assertIsNone(how_many(text_program(grammar, "t", "b"), "all", 10 ** 6))

    def test_faults_for_nothing(self):
        grammar = Grammar(["flat"], [("s", [("sign", "a"), ("name", "s")], (1,), (0,)), ("s", [], (0,), (0,))], ((0,), (0,), (0,)))
        for text in ("", "b", "ba", "bab"):
            self.assertEqual(self.check(grammar, "s", text), [(0,)])

    def test_by_chance(self):
        chance = chance_of(143)
        lengths = {}
        for _ in range(250):
            grammar = some_grammar(chance, chance.randint(1, 4))
            text = "".join(chance.choice("aabbc") for _ in range(chance.randint(0, 3)))
            name = chance.choice(["s", "t"])
            names = [rule[0] for rule in grammar.all_rules()]
            names += [part[1] for rule in grammar.all_rules() for part in rule[1] if part[0] == "name"]
            if name in names:
                found = self.check(grammar, name, text)
                lengths[len(found)] = lengths.get(len(found), 0) + 1
        self.assertGreater(max(lengths), 2)
        self.assertGreater(lengths[1], 30)

    def test_other_amounts(self):
        for amount in NO_AMOUNTS + [(1, 3), (2, 2), (0, 0), (1,), (1, 2, 0), [True, 2], "(1, 2)", (3, True)]:
            self.assertIsNone(parse_with(NESTS, "s", "aab", amount))
        self.assertEqual(parse_with(NESTS, "s", "aab", [1, 2]), parse_with(NESTS, "s", "aab", (1, 2)))

    def test_six_signs_and_six_rules(self):
        rules = [("s", [("name", "s"), ("name", "t"), ("name", "s")], (1, 0, 1), (0, 1, 0)),
                 ("s", [("sign", "a"), ("name", "s"), ("sign", "b")], (0, 1, 0), (0, 1, 0)),
                 ("s", [("sign", "b"), ("name", "t"), ("sign", "a")], (0, 0, 3), (0, 2, 0)), ("s", [], (0, 0, 0), (0, 0, 0)),
                 ("t", [("name", "s"), ("sign", "a"), ("name", "t")], (1, 1, 0), (0, 1, 0)), ("t", [("sign", "b")], (2, 0, 0), (0, 0, 0))]
        sorts = ["flat", "high", "flat"]
        for fault in range(3):
            faults = [None] * 3
            faults[fault] = (1, 0, 2)
            grammar = Grammar(sorts, rules, faults)
            for text in ("abbaab", "aaaaaa", "bababa"):
                amounts = text_front(grammar, "s", text)
                self.check_parses(grammar, "s", text, amounts[:3])
        grammar = Grammar(sorts, rules, ((1, 0, 1), (2, 0, 0), (0, 0, 3)))
        for text in ("abba", "aaaa"):
            amounts = text_front(grammar, "s", text)
            self.check_parses(grammar, "s", text, amounts[:4])

    def test_errors(self):
        for call, rest in ((text_front, []), (text_program, []), (parse_with, [None])):
            for name in NO_SIGNS + ["", "a", "all", "s1"]:
                self.refuses(NoName, "name", name, call, NESTS, name, None, *rest)
            for text in NO_SIGNS:
                self.refuses(BadSigns, "signs", text, call, NESTS, "s", text, *rest)
        self.assertTrue(issubclass(NoAmount, ValueError))


class TextProgram(Case):

    def check(self, grammar, name, text):
        program = text_program(grammar, name, text)
        self.assertEqual(program.own_sorts(), grammar.own_sorts())
        self.assertEqual(program.all_rules(), plain_text_rules(grammar, name, text))
        self.assertEqual(front(program, "all"), text_front(grammar, name, text))
        return program

    def test_the_example(self):
        program = self.check(NESTS, "s", "aab")
        self.assertEqual(program, text_program(Grammar(SORTS, swapped(RULES), FAULTS), "s", "aab"))
        self.assertIsInstance(program, Program)
        self.assertIn(("all", (("s.0.1", 1, (0, 0)),), (2, 0), ("sum", "most")), program.all_rules())
        self.assertIn(("s.0.2", (("0.3.0.2", 1, (0, 1)),), (0, 1), ("sum", "most")), program.all_rules())
        self.assertIn(("0.3.0.3", (("0.2.0.1", 1, (0, 0)), ("-b.1.3", 1, (0, 0))), (0, 0), ("sum", "most")), program.all_rules())

    def test_rows_that_come_twice(self):
        # As a fault takes nothing, the sign that stands there and the one that lacks make two equal rules.
        grammar = Grammar(["flat"], [("s", [("sign", "a")], (1,), (0,)), ("t", [], (1,), (0,)), ("t", [], (1,), (0,))],
                          ((0,), (0,), None))
        program = self.check(grammar, "s", "a")
        self.assertEqual(program.all_rules().count(("-a.0.1", (), (0,), ("sum",))), 2)
        self.assertEqual(self.check(grammar, "t", "").all_rules().count(("t.0.0", (), (1,), ("sum",))), 2)

    def test_by_chance(self):
        chance = chance_of(144)
        for _ in range(150):
            grammar = some_grammar(chance, chance.randint(1, 4))
            text = "".join(chance.choice("abc") for _ in range(chance.randint(0, 4)))
            self.check(grammar, grammar.all_rules()[0][0], text)

    def test_plans_are_parses(self):
        chance = chance_of(145)
        finite = 0
        for _ in range(150):
            # No name asks itself: all parses are straight.
            grammar = some_grammar(chance, chance.randint(1, 4))
            rules = [("s", [part for part in right if part != ("name", "s")] if head == "s" else
                      [part for part in right if part[0] == "sign"], own, rise) if head == "s" else
                     ("t", [part for part in right if part[0] == "sign"], own, rise)
                     for head, right, own, rise in grammar.all_rules()]
            grammar = Grammar(grammar.own_sorts(), rules, grammar.own_faults())
            text = "".join(chance.choice("ab") for _ in range(chance.randint(0, 3)))
            name = rules[0][0]
            program = text_program(grammar, name, text)
            many = len(plain_parses(grammar, name, text))
            self.assertEqual(how_many(program, "all", 10 ** 6), many)
            finite += many > 1
        self.assertGreater(finite, 40)

    def test_other_questions_of_texts(self):
        program = text_program(NESTS, "s", "aab")
        self.assertEqual(hull(program, "all"), [(1, 2), (3, 1)])
        for amount in front(program, "all"):
            self.assertGreater(len(plan_of(program, "all", amount)), 1)
        self.assertFalse(any(is_under(one, other) for one in front(program, "all") for other in front(program, "all")))
        self.assertNotIn("all", EXAMPLE.things())


if __name__ == "__main__":
    unittest.main()
