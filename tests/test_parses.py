"""Promise 14.2, and 14.5 as far as it tells of it: parses, their texts and amounts."""

import unittest
from itertools import product as all_of

from anyprice.grammars import Grammar
from anyprice.parses import is_parse, mended, parse_amount, parse_text
from anyprice.refusals import BadParse, BadSigns, NoName
from helpers import EXAMPLE, NO_LISTS, Case, chance_of, swapped
from test_grammars import FAULTS, NESTS, RULES, SORTS

NAMES_AND_SIGNS = [("name", "s"), ("name", "t"), ("sign", "a"), ("sign", "b")]
NO_SIGNS = [None, True, 0, 1, [], ["a"], ("a",), {}, EXAMPLE, "A", "a b", "-", "a.", "\u00e4", "\u00b2", "a\n", " "]
# A parse of the example: one sign too many, two deep.
DEEP = ((0, (("a", "a"), (1, ()), ("", "b"))), "")
FLAT = ((1, ()), "aab")


def some_grammar(chance, many=3, let=None):
    """A grammar with names that ask themselves, rules of nothing, and some faults let."""
    sorts = [chance.choice(["flat", "high"]) for _ in range(chance.randint(1, 3))]

    def amount(word, most):
        return tuple(chance.randint(0, most) if word in (sort, "") else 0 for sort in sorts)

    rules = []
    for _ in range(many):
        right = [chance.choice(NAMES_AND_SIGNS) for _ in range(chance.choice([0, 1, 1, 2, 2, 3]))]
        rules.append((chance.choice("sst"), right, amount("", 4), amount("high", 2)))
    let = [chance.random() < .5 for _ in range(3)] if let is None else let
    return Grammar(sorts, rules, [amount("flat", 3) if fault else None for fault in let])


def plain_leaves(grammar, sign, text, start, end):
    """All leaves of a sign over a stretch of the text."""
    lacks, more, other = grammar.own_faults()
    found = []
    for got, last in ((text[end - 1], end - 1), ("", end)) if end > start else (("", end),):
        fine = lacks is not None if got == "" else got == sign or other is not None
        if fine and (last == start or more is not None):
            found.append((text[start:last], got))
    return found


def plain_trees(grammar, name, text, start, end, above=()):
    """All trees of a name over a stretch that are straight, and below others of these (name, start, end)."""
    if (name, start, end) in above:
        return []
    inner = above + ((name, start, end),)
    found = []
    for number, (head, right, _, _) in enumerate(grammar.all_rules()):
        if head == name:
            found += [(number, things) for things in plain_things(grammar, right, text, start, end, inner)]
    return found


def plain_things(grammar, right, text, start, end, above):
    if not right:
        return [()] if start == end else []
    found = []
    for middle in range(start, end + 1) if right[1:] else [end]:
        word, what = right[0]
        firsts = (plain_trees(grammar, what, text, start, middle, above) if word == "name"
                  else plain_leaves(grammar, what, text, start, middle))
        if firsts:
            rests = plain_things(grammar, right[1:], text, middle, end, above)
            found += [(first,) + rest for first in firsts for rest in rests]
    return found


def plain_parses(grammar, name, text):
    """All straight parses of a name with the text."""
    found = []
    for end in range(len(text) + 1):
        if end == len(text) or grammar.own_faults()[1] is not None:
            found += [(tree, text[end:]) for tree in plain_trees(grammar, name, text, 0, end)]
    return found


def plain_amount(grammar, parse):
    lacks, more, other = grammar.own_faults()
    sorts = grammar.own_sorts()

    def of_leaf(sign, leaf, at):
        ahead, got = leaf
        total = len(ahead) * more[at] if ahead else 0
        return total + (0 if got == sign else lacks[at] if got == "" else other[at])

    def of_tree(tree, at):
        _, right, own, rise = grammar.all_rules()[tree[0]]
        inner = [of_leaf(part[1], thing, at) if part[0] == "sign" else of_tree(thing, at) for part, thing in zip(right, tree[1])]
        return own[at] + sum(inner) if sorts[at] == "flat" else max([own[at]] + [rise[at] + number for number in inner])

    return tuple(of_tree(parse[0], at) + (len(parse[1]) * more[at] if parse[1] else 0) for at in range(len(sorts)))


def plain_mended(grammar, tree):
    right = grammar.all_rules()[tree[0]][1]
    return "".join(part[1] if part[0] == "sign" else plain_mended(grammar, inner) for part, inner in zip(right, tree[1]))


class Parses(Case):

    def test_the_example(self):
        self.tells(True, is_parse, NESTS, "s", "aab", DEEP)
        self.tells(True, is_parse, NESTS, "s", "aab", FLAT)
        self.tells("aab", parse_text, NESTS, DEEP)
        self.tells("aab", parse_text, NESTS, FLAT)
        self.tells((1, 2), parse_amount, NESTS, DEEP)
        self.tells((3, 1), parse_amount, NESTS, FLAT)
        self.tells("ab", mended, NESTS, DEEP)
        self.tells("", mended, NESTS, FLAT)

    def test_other_texts(self):
        for text in ("", "ab", "aa", "aaab", "baa", "aabb"):
            self.tells(False, is_parse, NESTS, "s", text, DEEP)
        self.tells(True, is_parse, NESTS, "s", "", ((1, ()), ""))
        self.tells(True, is_parse, NESTS, "s", "", ((0, (("", ""), (1, ()), ("", ""))), ""))
        self.tells((2, 2), parse_amount, NESTS, ((0, (("", ""), (1, ()), ("", ""))), ""))

    def test_faults_that_are_not_let(self):
        parses = {
            "": ((0, (("", "a"), (1, ()), ("", "b"))), ""),
            "lacks": ((0, (("", ""), (1, ()), ("", "b"))), ""),
            "more": ((0, (("c", "a"), (1, ()), ("", "b"))), ""),
            "rest": ((0, (("", "a"), (1, ()), ("", "b"))), "c"),
            "other": ((0, (("", "a"), (1, ()), ("", "c"))), ""),
        }
        amounts = {"": (0, 2), "lacks": (1, 2), "more": (10, 2), "rest": (10, 2), "other": (100, 2)}
        for let in all_of((True, False), repeat=3):
            faults = [row if fine else None for row, fine in zip(((1, 0), (10, 0), (100, 0)), let)]
            grammar = Grammar(SORTS, RULES, faults)
            for word, parse in parses.items():
                fine = {"": True, "lacks": let[0], "more": let[1], "rest": let[1], "other": let[2]}[word]
                text = {"": "ab", "lacks": "b", "more": "cab", "rest": "abc", "other": "ac"}[word]
                self.tells(fine, is_parse, grammar, "s", text, parse)
                if fine:
                    self.tells(amounts[word], parse_amount, grammar, parse)
                    self.tells(text, parse_text, grammar, parse)
                    self.tells("ab", mended, grammar, parse)
                else:
                    for call in (parse_amount, parse_text, mended):
                        self.refuses(BadParse, "parse", parse, call, grammar, parse)

    def test_rising(self):
        # High: the greatest of own and, raised, of each amount in it, a leaf's being 0; flat: all added.
        grammar = Grammar(["high", "flat"], [("s", [("name", "t"), ("sign", "a")], (1, 5), (4, 0)), ("t", [], (2, 7), (9, 0)),
                                             ("t", [("sign", "a")], (2, 7), (9, 0)), ("u", [("sign", "a")], (3, 0), (2, 0))],
                          ((0, 1), None, None))
        self.tells((6, 12), parse_amount, grammar, ((0, ((1, ()), ("", "a"))), ""))
        self.tells((13, 13), parse_amount, grammar, ((0, ((2, (("", ""),)), ("", "a"))), ""))
        self.tells((3, 0), parse_amount, grammar, ((3, (("", "a"),)), ""))
        self.tells((2, 7), parse_amount, grammar, ((1, ()), ""))

    def test_of_another_name(self):
        grammar = Grammar(["flat"], [("s", [("name", "t")], (1,), (0,)), ("t", [], (2,), (0,)), ("u", [("name", "w")], (0,), (0,))],
                          (None, None, None))
        self.tells(True, is_parse, grammar, "t", "", ((1, ()), ""))
        self.tells(False, is_parse, grammar, "s", "", ((1, ()), ""))
        self.tells(True, is_parse, grammar, "s", "", ((0, ((1, ()),)), ""))
        self.tells(False, is_parse, grammar, "w", "", ((1, ()), ""))
        self.tells(False, is_parse, grammar, "s", "", ((0, ((0, ((1, ()),)),)), ""))

    def test_by_chance(self):
        chance = chance_of(142)
        counted = 0
        for _ in range(150):
            grammar = some_grammar(chance)
            text = "".join(chance.choice("abc") for _ in range(chance.randint(0, 3)))
            name = grammar.all_rules()[0][0]
            parses = plain_parses(grammar, name, text)
            for parse in chance.sample(parses, min(4, len(parses))):
                counted += 1
                self.tells(True, is_parse, grammar, name, text, parse)
                self.tells(False, is_parse, grammar, name, text + "a", parse)
                self.tells(text, parse_text, grammar, parse)
                self.tells(plain_amount(grammar, parse), parse_amount, grammar, parse)
                self.tells(plain_mended(grammar, parse[0]), mended, grammar, parse)
        self.assertGreater(counted, 100)

    def test_forty_trees_within_one_another(self):
        tree = (1, ())
        for _ in range(39):
            tree = (0, (("", "a"), tree, ("", "b")))
        text = "a" * 39 + "b" * 39
        self.tells(True, is_parse, NESTS, "s", text, (tree, ""))
        self.tells((0, 40), parse_amount, NESTS, (tree, ""))
        self.tells(text, mended, NESTS, (tree, ""))
        self.tells(text, parse_text, NESTS, (tree, ""))

    def test_any_object(self):
        (number, inner), rest = DEEP
        first, second, third = inner
        things = NO_LISTS + [
            [], (), (DEEP[0],), DEEP + ("",), (DEEP[0], None), (DEEP[0], 0), (DEEP[0], "A"), (DEEP[0], ["a"]), (None, ""), ("ab", ""),
            ((0,), ""), ((0, inner, 0), ""), ((True, ()), ""), ((2, ()), ""), ((-1, ()), ""), (("0", inner), ""), ((0, None), ""),
            ((0, ()), ""), ((0, inner[:2]), ""), ((0, inner + (third,)), ""), ((0, "abc"), ""), ((1, inner), ""), ((0, {}), ""),
        ]
        for leaf in [None, "a", "ab", (), ("a",), ("a", "a", ""), ("a", "c"), ("a", "aa"), ("a", None), (None, "a"), ("A", "a"),
                     ("a", "A"), (["a"], "a"), (0, "a"), ("a", 0), (1, ())]:
            things += [((0, (leaf, second, third)), "")]
        for tree in [None, "a", ("", "a"), (), (1,), (0, ()), (1, None), (1, ((1, ()),)), DEEP]:
            things += [((0, (first, tree, third)), "")]
        for thing in things:
            self.tells(False, is_parse, NESTS, "s", "aab", thing)
            for call in (parse_text, parse_amount, mended):
                self.refuses(BadParse, "parse", thing, call, NESTS, thing)
        self.tells(True, is_parse, NESTS, "s", "aab", swapped(DEEP))
        self.tells("aab", parse_text, NESTS, swapped(DEEP))

    def test_errors(self):
        for name in NO_SIGNS + ["", "a", "sign", "s1", "ss", [["s"]]]:
            self.refuses(NoName, "name", name, is_parse, NESTS, name, None, DEEP)
        for text in NO_SIGNS:
            self.refuses(BadSigns, "signs", text, is_parse, NESTS, "s", text, DEEP)
        grammar = Grammar(["flat"], [], (None, None, None))
        self.refuses(NoName, "name", "s", is_parse, grammar, "s", "", DEEP)
        self.refuses(BadParse, "parse", DEEP, parse_amount, grammar, DEEP)
        self.assertEqual(len(FAULTS), 3)


if __name__ == "__main__":
    unittest.main()
