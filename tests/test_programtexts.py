"""Promises 20.1 and 20.2: texts of programs and plans."""

import unittest

from anyprice.plans import is_plan
from anyprice.programs import Program
from anyprice.programtexts import read_plan, read_program, write_plan, write_program
from anyprice.refusals import BadText
from helpers import EXAMPLE, NO_LISTS, Case, chance_of, some_plan, some_program, swapped
from textways import line_of, spoilt_texts, wrong_line

TEXT = """sorts flat high
rule a times 5 most 1
rule a times 2 most 4
rule b times 1 most 2
part a 3 0 0
rule c times 0 most 3
part a 1 0 0
part b 1 0 2
rule a times 0 most 0
part c 1 0 0
"""
PLAN = [(0, ()), (2, (0,)), (1, ()), (3, (2, 1))]


def plain_program(lines):
    """The program of lines, however they are written; None for none."""
    try:
        words = [line.split() for line in lines]
        sorts, rules = words[0][1:], []
        for line in words[1:]:
            if line[0] == "rule":
                rules.append((line[1], [], [int(number) for number in line[3::2]], line[2::2]))
            else:
                rules[-1][1].append((line[1], int(line[2]), [int(number) for number in line[3:]]))
        return Program(sorts, rules)
    except (ValueError, IndexError):
        return None


def is_program_text(lines):
    """Whether they are a program just as it is written."""
    program = plain_program(lines)
    return program is not None and write_program(program) == "".join(line + "\n" for line in lines)


class ProgramTexts(Case):

    def test_the_example(self):
        self.tells(TEXT, write_program, EXAMPLE)
        self.assertTrue(self.told(read_program, TEXT) == EXAMPLE)

    def test_small_ones(self):
        for sorts in (["flat"], ["high", "flat"], ["flat", "high", "high"]):
            program = Program(sorts, [])
            self.tells("sorts " + " ".join(sorts) + "\n", write_program, program)
            self.assertTrue(read_program(write_program(program)) == program)
        program = Program(["high"], [("a.-9", [("-", 10 ** 17, (7,)), ("-", 1, (0,))], (0,), ("most",)), ("z", [], (10 ** 18 - 1,), ("sum",))])
        self.tells("sorts high\nrule a.-9 most 0\npart - 100000000000000000 7\npart - 1 0\nrule z sum 999999999999999999\n", write_program, program)
        self.assertTrue(read_program(write_program(program)) == program)

    def test_wrong_lines(self):
        for text, line in (
            ("", 1), ("\n", 1), ("sorts\n", 1), ("sorts flat", 1), ("sorts flat\nrule\n", 2), ("sorts flat\nrule a times 1\npart\n", 3), ("sorts flat\n\n", 2), (" sorts flat\n", 1), ("sorts flat \n", 1), ("sorts  flat\n", 1),
            ("sorts flat flat flat flat\n", 1), ("sorts Flat\n", 1), ("rule a times 1\n", 1), ("sorts flat\nsorts flat\n", 2), ("sorts flat\npart a 1 0\n", 2),
            ("sorts flat\nrule a times 1", 2), ("sorts flat\nrule a times 01\n", 2), ("sorts flat\nrule a times -0\n", 2), ("sorts flat\nrule a times -1\n", 2),
            ("sorts flat\nrule a most 1\n", 2), ("sorts flat\nrule a times\n", 2), ("sorts flat\nrule a times 1 times 1\n", 2), ("sorts flat\nrule A times 1\n", 2),
            ("sorts flat\nrule  times 1\n", 2), ("sorts flat\nrule a times 1\npart a 0 0\n", 3), ("sorts flat\nrule a times 1\npart a 1 1\n", 3),
            ("sorts flat\nrule a times 1\npart a 1\n", 3), ("sorts flat\nrule a times 1\npart a 1 0 0\n", 3), ("sorts flat\nrule a times 1\npart a\n", 3),
            ("sorts flat\nrule a times 1\npart a 1 0\npart", 4), ("sorts flat\nrule a times 1\npart b 1 0\nx", 4), ("sorts flat\r\n", 1), ("sorts flat\nrule a times +1\n", 2),
            ("sorts high\nrule a most 1\npart a 1 2\npart a 2 -1\n", 4), ("sorts flat\nrule " + "a" * 25 + " times 1\n", 2), ("x", 1), (TEXT + "\n", 11), (TEXT[:-1], 10),
            ("sorts flat\nrule a times \u0661\n", 2), ("sorts flat\nrule a times 1\u2028\n", 2), ("sorts flat\nrule a Times 1\n", 2), ("sorts flat\nrule a times 1_0\n", 2),
        ):
            self.refuses(BadText, "line", line, read_program, text)
        for thing in NO_LISTS + [[], [TEXT], (TEXT,), b"sorts flat\n", EXAMPLE]:
            if not isinstance(thing, str):
                self.refuses(BadText, "line", 0, read_program, thing)
                self.refuses(BadText, "line", 0, read_plan, EXAMPLE, thing)

    def test_by_chance(self):
        chance = chance_of(201)
        told = {}
        for _ in range(80):
            program = some_program(chance, chance.randint(1, 5), chance.randint(0, 6), 12)
            text = self.told(write_program, program)
            again = self.told(read_program, text)
            self.assertTrue(again == program)
            self.assertEqual(write_program(again), text)
            for spoilt in spoilt_texts(chance, text, 12, ["rule t0 times 1", "part t1 1 0", "sorts flat", "row 1", ""]):
                line = wrong_line(spoilt, is_program_text, is_program_text)
                self.assertEqual(line_of(lambda: read_program(spoilt)), line, spoilt)
                told[line] = told.get(line, 0) + 1
                if line is None:
                    self.assertEqual(write_program(read_program(spoilt)), spoilt)
        self.assertGreater(min(told[line] for line in (None, 1, 2, 3, 4)), 10)

    def test_eight_thousand_signs(self):
        rules = [("thing", [("part", 3, (0, 9))] * 4, (number, 10 ** 17 + number), ("times", "most")) for number in range(70)]
        program = Program(["flat", "high"], rules)
        text = write_program(program)
        self.assertGreater(len(text), 7000)
        self.assertTrue(read_program(text) == program)
        self.assertEqual(line_of(lambda: read_program(text + "part " * 200)), text.count("\n") + 1)
        self.refuses(BadText, "line", 2, read_program, "sorts flat\nrule a times " + "0" * 7000 + "\n")
        self.assertEqual(read_program("sorts flat\nrule a times 1" + "0" * 6000 + "\n").all_rules()[0][2][0].bit_length(), (10 ** 6000).bit_length())


class PlanTexts(Case):

    def test_the_example(self):
        self.tells("row 0\nrow 2 0\nrow 1\nrow 3 2 1\n", write_plan, PLAN)
        self.tells(PLAN, read_plan, EXAMPLE, "row 0\nrow 2 0\nrow 1\nrow 3 2 1\n")
        self.tells("row 0\n", write_plan, [[0, []]])
        self.tells([(0, ())], read_plan, EXAMPLE, "row 0\n")

    def test_wrong_lines(self):
        for text, line in (
            ("", 1), ("\n", 1), ("row\n", 1), ("row 0", 1), ("row 5\n", 1), ("row -1\n", 1), ("row 00\n", 1), ("row 0 0\n", 1), ("row 2\n", 1), ("row 2 0\n", 1),
            ("Row 0\n", 1), ("row  0\n", 1), ("row 0 \n", 1), ("row 0\nrow 0\n", 3), ("row 0\nrow 2 0", 2), ("row 0\nrow 2 1\n", 2), ("row 0\nrow 3 0 0\n", 2),
            ("row 0\nrow 2 0\nrow 1\n", 4), ("row 0\nrow 2 0\nrow 1\nrow 3 2 1\nrow 0\n", 6), ("row 0\nrow 2 0\nrow 1\nrow 3 2 1\nrow", 5),
            ("row 0\nrow 2 -0\n", 2), ("row 0\n\n", 2), ("row a\n", 1), ("sorts flat\n", 1),
        ):
            self.refuses(BadText, "line", line, read_plan, EXAMPLE, text)

    def test_rows_that_are_below_none(self):
        # The last one lacks; each line is right, whatever can follow.
        self.refuses(BadText, "line", 4, read_plan, EXAMPLE, "row 0\nrow 2 0\nrow 1\n")
        self.refuses(BadText, "line", 3, read_plan, EXAMPLE, "row 0\nrow 1\n")

    def test_by_chance(self):
        chance = chance_of(202)
        told = {None: 0}
        for _ in range(150):
            program = some_program(chance, 3, 6, 5)
            plan = some_plan(chance, program, chance.randint(1, 12))
            if plan is None:
                continue
            text = self.told(write_plan, plan)
            self.tells(plan, read_plan, program, text)
            self.assertEqual(write_plan(swapped(plan)), text)
            for spoilt in spoilt_texts(chance, text, 8, ["row 0", "row 1 0", "row 2 0 0", "part a"]):
                line = wrong_line(spoilt, lambda lines: self.are_rows(program, lines), lambda lines: is_plan(program, self.rows_of(lines)))
                self.assertEqual(line_of(lambda: read_plan(program, spoilt)), line, spoilt)
                told[line] = told.get(line, 0) + 1
        self.assertGreater(min(told[line] for line in (None, 1, 2, 3, 4)), 5)

    def rows_of(self, lines):
        return [(int(line.split()[1]), tuple(map(int, line.split()[2:]))) for line in lines]

    def are_rows(self, program, lines):
        """Whether each row can stand behind those ahead of it: with rows over it that use all, it is a plan."""
        try:
            rows = self.rows_of(lines)
        except (ValueError, IndexError):
            return False
        if write_plan(rows) != "".join(line + "\n" for line in lines):
            return False
        rules = program.all_rules()
        for at, (number, below) in enumerate(rows):
            if not 0 <= number < len(rules) or len(below) != len(rules[number][1]):
                return False
            if not all(0 <= row < at and rules[rows[row][0]][0] == part[0] for row, part in zip(below, rules[number][1])):
                return False
        return True


if __name__ == "__main__":
    unittest.main()
