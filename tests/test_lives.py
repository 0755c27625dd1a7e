"""Promises 10.1 to 10.3: live programs, what changed, and deeds that are taken back and done again."""

import unittest

from anyprice.errors import BadAmount, BadNumber, BadRule, NoThing
from anyprice.lives import Live
from anyprice.programs import Program
from helpers import (EXAMPLE, HOW, NO_AMOUNTS, NO_INTEGERS, NO_LISTS, Case, bowl, chance_of, is_at_most, is_under, plain_fronts,
                     rich_program, spoil)

NOTHING = {"gone": [], "new": [], "turned": []}


class Failure(Exception):
    pass


def plain_changes(before, now):
    one, other = plain_fronts(before), plain_fronts(now)
    return {
        "gone": sorted(set(one) - set(other)),
        "new": sorted(set(other) - set(one)),
        "turned": [(thing, [row for row in one[thing] if row not in other[thing]],
                    [row for row in other[thing] if row not in one[thing]])
                   for thing in sorted(one) if thing in other and one[thing] != other[thing]],
    }


def some_deed(chance, live):
    """Do a deed at random, if one can be done."""
    program = live.program_now()
    sorts = program.own_sorts()
    word = chance.choice(["put", "put", "take", "own"]) if len(program) else "put"
    number = chance.randrange(len(program) + (word == "put"))
    if word == "put":
        how = [chance.choice(["times", "sum", "most"] if sort == "high" else ["times", "sum"]) for sort in sorts]
        names = program.things() + ["t0", "t1", "new"]
        parts = [(chance.choice(names), chance.randint(1, 2), [chance.randint(0, 2) if w == "most" else 0 for w in how])
                 for _ in range(chance.choice([0, 0, 1, 2]))]
        live.put_rule(number, (chance.choice(names), parts, [chance.randint(0, 6) for _ in sorts], how))
        return "put_rule", program
    if word == "take":
        live.take_rule(number)
        return "take_rule", program
    live.new_own(number, [chance.randint(0, 6) for _ in sorts])
    return "new_own", program


class Deeds(Case):

    def test_deeds(self):
        live = Live(EXAMPLE)
        self.assertEqual(live.program_now(), EXAMPLE)
        self.assertIsNone(live.put_rule(5, ("a", [], [1, 9], ["times", "most"])))
        program = EXAMPLE.with_rule(5, ("a", (), (1, 9), HOW))
        self.assertEqual(live.program_now(), program)
        self.assertIsNone(live.take_rule(0))
        program = program.without_rule(0)
        self.assertEqual(live.program_now(), program)
        self.assertIsNone(live.new_own(number=0, own=[7, 7]))
        self.assertEqual(live.program_now(), program.with_own(0, (7, 7)))
        self.assertIsNone(live.put_rule(number=0, rule=("z", [("y", 1, (0, 0))], (0, 0), HOW)))
        self.assertIsNone(live.take_rule(number=0))
        self.assertEqual(live.deeds_done(), 5)
        self.assertEqual(EXAMPLE.all_rules()[0], ("a", (), (5, 1), HOW))

    def test_fronts(self):
        live = Live(EXAMPLE)
        self.tells([(9, 6), (18, 4)], live.front_now, "c")
        live.take_rule(0)
        self.tells([(9, 6)], live.front_now, "c")
        live.take_rule(0)
        for thing in "abc":
            self.tells([], live.front_now, thing)

    def test_equal_if_programs_are(self):
        live, other = Live(EXAMPLE), Live(Program(["flat", "high"], EXAMPLE.all_rules()))
        self.assertTrue(live == other)
        other.take_rule(4)
        self.assertFalse(live == other)
        self.assertTrue(live != other)
        other.undo()
        self.assertTrue(live == other)
        live.new_own(0, (5, 1))
        self.assertTrue(live == other)
        for thing in NO_LISTS + [[], [EXAMPLE]]:
            self.assertFalse(live == thing)
            self.assertFalse(thing == live)

    def test_errors(self):
        live = Live(EXAMPLE)
        live.put_rule(0, ("b", [], (9, 9), HOW))
        live.take_rule(0)
        live.undo()
        program, changes = live.program_now(), live.last_changes()

        def refuses(error, name, kept, call, *passed):
            self.refuses(error, name, kept, call, *passed)
            self.assertEqual((live.program_now(), live.last_changes(), live.deeds_done()), (program, changes, 1))

        rule = ("a", [], (1, 1), HOW)
        for number in NO_INTEGERS + [-1, 7, 10 ** 20]:
            refuses(BadNumber, "number", number, live.put_rule, number, rule)
            refuses(BadNumber, "number", number, live.put_rule, number, None)
        for number in NO_INTEGERS + [-1, 6, 10 ** 20]:
            refuses(BadNumber, "number", number, live.take_rule, number)
            refuses(BadNumber, "number", number, live.new_own, number, (1, 1))
            refuses(BadNumber, "number", number, live.new_own, number, None)
        for bad in NO_LISTS + [[], rule[:3], ("a", [], (1,), HOW), ("A", [], (1, 1), HOW)]:
            refuses(BadRule, "index", 0, live.put_rule, 0, bad)
        for own in NO_AMOUNTS + [(1,), (1, 2, 3)]:
            refuses(BadAmount, "amount", own, live.new_own, 0, own)
        for thing in NO_LISTS + [[], ["a"], "d"]:
            if thing != "a":
                refuses(NoThing, "thing", thing, live.front_now, thing)
        # What was refused is no deed: what was taken back can still be done again.
        self.assertEqual(live.again(), "take_rule")

    def test_a_thing_that_went(self):
        live = Live(EXAMPLE)
        live.put_rule(0, ("z", [("y", 1, (0, 0))], (0, 0), HOW))
        self.assertEqual(live.front_now("y"), [])
        live.take_rule(0)
        with self.assertRaises(NoThing):
            live.front_now("y")

    def test_what_lies_beside_is_not_worked_out(self):
        # The other thing's front would have ten thousands of amounts.
        how = ("sum", "sum")
        rules = [("a", [], (3, 3), how), ("b", [("a", 1, (0, 0))], (1, 1), how)]
        for step in range(24):
            rules.append((f"big{step}", [], (2 ** step, 0), how))
            rules.append((f"big{step}", [], (0, 2 ** step), how))
            rules.append((f"all{step}", [(f"big{step}", 1, (0, 0))] + [(f"all{step - 1}", 1, (0, 0))] * (step > 0), (0, 0), how))
        live = Live(Program(["flat", "flat"], rules))
        live.new_own(0, (2, 9))
        self.assertEqual(live.last_changes(), {"gone": [], "new": [], "turned": [
            ("a", [(3, 3)], [(2, 9)]), ("b", [(4, 4)], [(3, 10)])]})
        self.assertEqual(live.front_now("b"), [(3, 10)])


class Changes(Case):

    def test_ahead_of_any(self):
        live = Live(EXAMPLE)
        self.tells(NOTHING, live.last_changes)
        self.assertIsNone(live.undo())
        self.assertIsNone(live.again())
        self.tells(NOTHING, live.last_changes)

    def test_lost_and_won(self):
        live = Live(EXAMPLE)
        live.new_own(1, (2, 3))
        expected = {"gone": [], "new": [], "turned": [
            ("a", [(2, 4)], [(2, 3)]), ("b", [(7, 4)], [(7, 3)]), ("c", [(9, 6)], [(9, 5)])]}
        self.tells(expected, live.last_changes)
        self.assertEqual(live.undo(), "new_own")
        self.tells({"gone": [], "new": [], "turned": [(thing, won, lost) for thing, lost, won in expected["turned"]]},
                   live.last_changes)
        self.assertEqual(live.again(), "new_own")
        self.tells(expected, live.last_changes)
        # The ends are no undoing and no doing again.
        self.assertIsNone(live.again())
        self.tells(expected, live.last_changes)

    def test_gone_and_new(self):
        live = Live(EXAMPLE)
        live.put_rule(2, ("y", [("z", 1, (0, 0)), ("a", 1, (0, 0))], (0, 0), HOW))
        self.tells({"gone": [], "new": ["y", "z"], "turned": []}, live.last_changes)
        live.put_rule(0, ("z", [], (1, 1), HOW))
        self.tells({"gone": [], "new": [], "turned": [("y", [], [(3, 4), (6, 1)]), ("z", [], [(1, 1)])]}, live.last_changes)
        live.take_rule(3)
        self.tells({"gone": ["y"], "new": [], "turned": []}, live.last_changes)
        live.take_rule(0)
        self.tells({"gone": ["z"], "new": [], "turned": []}, live.last_changes)
        live.undo()
        self.tells({"gone": [], "new": ["z"], "turned": []}, live.last_changes)

    def test_a_deed_that_changes_nothing(self):
        live = Live(EXAMPLE)
        live.new_own(0, (9, 9))
        live.new_own(0, (9, 9))
        self.tells(NOTHING, live.last_changes)
        self.assertEqual(live.deeds_done(), 2)

    def test_what_is_told_is_new(self):
        live = Live(EXAMPLE)
        live.new_own(1, (2, 3))
        told = live.last_changes()
        spoil(told)
        spoil(live.front_now("a"))
        spoil(live.program_now().all_rules())
        self.assertEqual(len(live.last_changes()["turned"]), 3)
        self.assertEqual(live.front_now("a"), [(2, 3), (5, 1)])

    def test_by_chance(self):
        chance = chance_of(102)
        counts = {"put_rule": 0, "take_rule": 0, "new_own": 0}
        for _ in range(60):
            live = Live(rich_program(chance, 4, 2, 6))
            for _ in range(12):
                name, before = some_deed(chance, live)
                now = live.program_now()
                if max(map(len, plain_fronts(now).values()), default=0) > 20:
                    live.undo()
                    continue
                changes = plain_changes(before, now)
                self.tells(changes, live.last_changes)
                counts[name] += len(changes["turned"])
                for _, lost, won in changes["turned"]:
                    if name == "put_rule":
                        self.assertTrue(all(any(is_under(other, row) for other in won) for row in lost))
                    if name == "take_rule":
                        self.assertTrue(all(any(is_under(other, row) for other in lost) for row in won))
                    if name == "new_own":
                        self.check_new_own(before, now, lost, won)
                for thing in now.things():
                    self.tells(plain_fronts(now)[thing], live.front_now, thing)
        self.assertGreater(min(counts.values()), 20)

    def check_new_own(self, before, now, lost, won):
        owns = [(one[2], other[2]) for one, other in zip(before.all_rules(), now.all_rules()) if one != other]
        for old, new in owns:
            if is_at_most(new, old):
                self.assertTrue(all(any(is_under(other, row) for other in won) for row in lost))
            if is_at_most(old, new):
                self.assertTrue(all(any(is_under(other, row) for other in lost) for row in won))


class Back(Case):

    def test_beyond_both_ends(self):
        live = Live(EXAMPLE)
        self.assertEqual(live.deeds_done(), 0)
        live.take_rule(4)
        live.put_rule(0, ("b", [], (1, 1), HOW))
        live.new_own(0, (2, 2))
        programs = [live.program_now()]
        for done, name in ((2, "new_own"), (1, "put_rule"), (0, "take_rule")):
            self.assertEqual(live.undo(), name)
            self.assertEqual(live.deeds_done(), done)
            programs.append(live.program_now())
        self.assertEqual(programs[3], EXAMPLE)
        for _ in range(2):
            self.assertIsNone(live.undo())
            self.assertEqual((live.program_now(), live.deeds_done()), (EXAMPLE, 0))
        for done, name in ((1, "take_rule"), (2, "put_rule"), (3, "new_own")):
            self.assertEqual(live.again(), name)
            self.assertEqual(live.deeds_done(), done)
            self.assertEqual(live.program_now(), programs[3 - done])
        for _ in range(2):
            self.assertIsNone(live.again())
            self.assertEqual((live.program_now(), live.deeds_done()), (programs[0], 3))

    def test_a_new_deed_ends_what_lies_ahead(self):
        live = Live(EXAMPLE)
        live.take_rule(4)
        live.take_rule(3)
        live.undo()
        live.new_own(0, (1, 1))
        self.assertIsNone(live.again())
        self.assertEqual(live.deeds_done(), 2)
        self.assertEqual([live.undo(), live.undo(), live.undo()], ["new_own", "take_rule", None])
        self.assertEqual([live.again(), live.again(), live.again()], ["take_rule", "new_own", None])

    def test_twins_go_on_by_themselves(self):
        live = Live(EXAMPLE)
        live.take_rule(4)
        live.new_own(1, (2, 3))
        live.undo()
        changes = live.last_changes()
        twin = live.twin()
        self.assertIsInstance(twin, Live)
        self.assertIsNot(twin, live)
        self.assertTrue(twin == live)
        self.assertEqual(twin.last_changes(), changes)
        self.assertEqual(twin.deeds_done(), 1)
        twin.put_rule(0, ("b", [], (0, 0), HOW))
        self.assertEqual((live.program_now(), live.deeds_done(), live.last_changes()), (EXAMPLE.without_rule(4), 1, changes))
        self.assertIsNone(twin.again())
        self.assertEqual(live.again(), "new_own")
        self.assertEqual([twin.undo(), twin.undo(), twin.undo()], ["put_rule", "take_rule", None])
        self.assertEqual(live.deeds_done(), 2)
        self.assertEqual(twin.program_now(), EXAMPLE)

    def test_trying_out(self):
        live = Live(EXAMPLE)
        live.take_rule(4)
        live.new_own(1, (2, 3))
        live.undo()
        state = (live.program_now(), live.last_changes(), live.deeds_done())
        seen = []

        def work(inner):
            seen.append(inner)
            inner.take_rule(0)
            inner.undo()
            inner.undo()
            inner.put_rule(0, ("b", [], (0, 0), HOW))
            self.assertEqual(inner.try_out(deeper), "deeper")
            self.assertEqual(inner.deeds_done(), 1)
            self.assertEqual(inner.last_changes()["turned"][0][0], "b")
            return inner.front_now("b")

        def deeper(inner):
            inner.undo()
            inner.take_rule(0)
            inner.take_rule(0)
            return "deeper"

        self.assertEqual(live.try_out(work), [(0, 0)])
        self.assertIs(seen[0], live)
        self.assertEqual((live.program_now(), live.last_changes(), live.deeds_done()), state)
        self.assertEqual(live.again(), "new_own")
        self.assertEqual(live.try_out(work=lambda inner: None), None)

    def test_trials_that_end_by_an_error(self):
        live = Live(EXAMPLE)
        live.take_rule(4)
        live.undo()
        error = Failure("so")

        def work(inner, depth=0):
            inner.new_own(0, (depth, depth))
            if depth == 10:
                raise error
            inner.try_out(lambda further: work(further, depth + 1))

        with self.assertRaises(Failure) as caught:
            live.try_out(work)
        self.assertIs(caught.exception, error)
        self.assertEqual((live.program_now(), live.deeds_done()), (EXAMPLE, 0))

        def refused(inner):
            inner.take_rule(0)
            inner.take_rule(99)

        with self.assertRaises(BadNumber):
            live.try_out(refused)
        self.assertEqual((live.program_now(), live.deeds_done(), live.again()), (EXAMPLE, 0, "take_rule"))

    def test_a_trial_that_catches_an_inner_error(self):
        live = Live(EXAMPLE)

        def work(inner):
            inner.take_rule(0)
            with self.assertRaises(Failure):
                inner.try_out(fails)
            return inner.deeds_done(), len(inner.program_now())

        def fails(inner):
            inner.take_rule(0)
            raise Failure()

        self.assertEqual(live.try_out(work), (1, 4))
        self.assertEqual(live.program_now(), EXAMPLE)

    def test_a_twin_of_a_trial_stays(self):
        live = Live(EXAMPLE)

        def work(inner):
            inner.take_rule(0)
            return inner.twin()

        twin = live.try_out(work)
        self.assertEqual((twin.deeds_done(), twin.program_now()), (1, EXAMPLE.without_rule(0)))
        self.assertEqual(live.deeds_done(), 0)

    def test_two_hundred_deeds(self):
        chance = chance_of(103)
        live = Live(rich_program(chance, 5, 3, 6))
        line, names, place = [live.program_now()], [], 0
        for _ in range(200):
            word = chance.choice(["deed", "deed", "undo", "again", "refused", "twin", "trial"])
            if word == "deed":
                name, _ = some_deed(chance, live)
                line, names = line[:place + 1] + [live.program_now()], names[:place] + [name]
                place += 1
            elif word == "undo":
                self.assertEqual(live.undo(), names[place - 1] if place else None)
                place = max(0, place - 1)
            elif word == "again":
                self.assertEqual(live.again(), names[place] if place < len(names) else None)
                place = min(len(names), place + 1)
            elif word == "refused":
                with self.assertRaises(BadNumber):
                    live.take_rule(-1)
            elif word == "twin":
                left = live
                live = live.twin()
                some_deed(chance, left)
            else:
                live.try_out(lambda inner: [some_deed(chance, inner), inner.undo(), inner.undo()])
            self.assertEqual((live.program_now(), live.deeds_done()), (line[place], place))
        while live.undo() is not None:
            place -= 1
            self.assertEqual(live.program_now(), line[place])
        self.assertEqual(place, 0)

    def test_two_hundred_deeds_and_great_fronts(self):
        chance = chance_of(104)
        how = ("sum", "sum", "sum")
        rules = [("a", [], row, how) for row in bowl(chance, 3, 40)]
        rules += [(f"b{step}", [("a", 1, (0, 0, 0))], (step, 0, 0), how) for step in range(60)]
        live = Live(Program(["flat", "flat", "high"], rules))
        for step in range(200):
            live.new_own(40 + step % 60, (step, step, 0))
            turned = live.last_changes()["turned"]
            self.assertEqual([thing for thing, _, _ in turned], [f"b{step % 60}"] if step else [])
        self.assertEqual(len(live.front_now("b7")), 40)


if __name__ == "__main__":
    unittest.main()
