"""Promise 17.2: machines."""

import unittest

from anyprice.machines import Machine
from anyprice.refusals import BadInstruction, NoInstruction
from helpers import EXAMPLE, NO_INTEGERS, NO_LISTS, Case, chance_of, some_function, spoil, swapped
from machinery import M, PLAIN_ROWS, some_machine

GOOD = ("ld", "reg", "mem", (2, 2))
NO_PATTERNS = [
    None, True, 0, "", "Reg", "var", "add", [], (), ["reg"], ("reg",), ("num",), ("num", True), ("num", None), ("num", "1"), ("num", 1, 2), ("var", "x"),
    ("reg", 1), ("add",), ("add", "reg"), ("add", "reg", "reg", "reg"), ("div", "reg", "reg"), ("add", "reg", None), ("add", None, "reg"), ("mul", ("num", True), "reg"), ("add", "reg", ("num", False)),
    ("add", ("add", "reg", "mem"), ("mul", "reg", ("sub", "reg", "x"))), {}, {"reg": 1}, some_function, EXAMPLE, (some_function, "reg", "reg"),
]
NO_INSTRUCTIONS = NO_LISTS + [[], (), GOOD[:3], GOOD + (1,), "ldrm", [None] * 4]
NO_INSTRUCTIONS += [(word,) + GOOD[1:] for word in NO_LISTS + [[], "Ld", "l1", "abcdefghi", "l d", ("ld",)] if word not in ("a", "ab", "flat")]
NO_INSTRUCTIONS += [("ld", place) + GOOD[2:] for place in NO_LISTS + [[], "num", "Reg", ("reg",), ["mem"]]]
NO_INSTRUCTIONS += [("ld", "reg", pattern, (2, 2)) for pattern in NO_PATTERNS]
NO_INSTRUCTIONS += [GOOD[:3] + (amount,) for amount in NO_LISTS + [[], (1,), (1, 2, 3), (1, -1), (-1, 1), (True, 1), (1, False), (1, None), ("1", 1)]]


class Machines(Case):

    def test_instructions(self):
        rows = [
            ["ld", "reg", "mem", [2, 2]], ("st", "mem", "reg", (0, 0)), ("abcdefgh", "mem", ["add", ["num", -3], ["mul", "num", "mem"]], (1, 10 ** 20)),
            ("a", "reg", ("num", 0), (1, 1)), ("b", "reg", "reg", (1, 1)), ("c", "mem", "mem", (1, 1)), ("d", "mem", "num", (1, 1)),
        ]
        machine = Machine(rows)
        expected = [
            GOOD, ("st", "mem", "reg", (0, 0)), ("abcdefgh", "mem", ("add", ("num", -3), ("mul", "num", "mem")), (1, 10 ** 20)),
            ("a", "reg", ("num", 0), (1, 1)), ("b", "reg", "reg", (1, 1)), ("c", "mem", "mem", (1, 1)), ("d", "mem", "num", (1, 1)),
        ]
        self.tells(expected, machine.instructions)
        self.assertTrue(machine == Machine(instructions=swapped(rows)))
        spoil(rows)
        self.tells(expected, machine.instructions)
        self.tells([], Machine([]).instructions)
        self.tells([], Machine(()).instructions)

    def test_bad_instructions(self):
        for thing in NO_LISTS:
            if thing != "":
                self.refuses(BadInstruction, "index", 0, Machine, thing)
        self.refuses(BadInstruction, "index", 0, Machine, "")
        for thing in NO_INSTRUCTIONS:
            self.refuses(BadInstruction, "index", 0, Machine, [thing])
            self.refuses(BadInstruction, "index", 1, Machine, [("a", "reg", "mem", (1, 1)), thing, thing])
        for number in NO_INTEGERS:
            self.refuses(BadInstruction, "index", 0, Machine, [("ld", "reg", ("num", number), (1, 1))])

    def test_a_word_twice(self):
        self.refuses(BadInstruction, "index", 1, Machine, [GOOD, GOOD])
        self.refuses(BadInstruction, "index", 2, Machine, [GOOD, ("st", "mem", "reg", (1, 1)), ["ld", "mem", "num", (0, 0)], None])
        self.refuses(BadInstruction, "index", 1, Machine, [GOOD, None, GOOD])

    def test_without(self):
        rows = M.instructions()
        for at, row in enumerate(rows):
            lean = self.told(M.without, row[0])
            self.assertEqual(lean.instructions(), rows[:at] + rows[at + 1:])
        self.assertEqual(M.instructions(), rows)
        for thing in NO_LISTS + [[], ["ld"], ("ld",), "Ld", "lo", GOOD, M]:
            self.refuses(NoInstruction, "word", thing, M.without, thing)
            self.refuses(NoInstruction, "word", thing, Machine([]).without, thing)
        with self.assertRaises(NoInstruction):
            M.without("ld").without("ld")

    def test_plain(self):
        self.tells(True, M.is_plain)
        self.tells(False, Machine([]).is_plain)
        rows = [row + ((3, 0),) for row in PLAIN_ROWS]
        self.tells(True, Machine(rows).is_plain)
        for row in rows:
            self.tells(False, Machine(rows).without(row[0]).is_plain)
        for row in M.instructions():
            self.tells(row[0] in ("addm", "mac"), M.without(row[0]).is_plain)
        # Others do not stand for these.
        others = [("li", "reg", ("num", 1), (0, 0)), ("li", "mem", "num", (0, 0))]
        for other in others:
            self.tells(False, Machine([row for row in rows if row[0] != "li"] + [other]).is_plain)
        other = ("add", "reg", ("add", "reg", "mem"), (0, 0))
        self.tells(False, Machine([row for row in rows if row[0] != "add"] + [other]).is_plain)

    def test_equal_if_lists_are(self):
        rows = M.instructions()
        self.assertTrue(M == Machine(rows))
        self.assertFalse(M != Machine(tuple(rows)))
        self.assertFalse(M == Machine(rows[::-1]))
        self.assertFalse(M == M.without("ld"))
        self.assertFalse(M == Machine([("ld", "reg", "mem", (2, 3))] + rows[1:]))
        for thing in NO_LISTS + [[], rows]:
            self.assertFalse(M == thing)
            self.assertFalse(thing == M)

    def test_by_chance(self):
        chance = chance_of(172)
        for _ in range(40):
            machine = some_machine(chance, chance.randint(0, 6), chance.randint(0, 2))
            rows = machine.instructions()
            self.assertTrue(machine == Machine(swapped(rows)))
            known = {row[1:3] for row in rows}
            self.tells(all(row[1:] in known for row in PLAIN_ROWS), machine.is_plain)
            spoil(machine.instructions())
            self.assertEqual(machine.instructions(), rows)


if __name__ == "__main__":
    unittest.main()
