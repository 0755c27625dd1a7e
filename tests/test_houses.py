"""Promises 20.4 to 20.6: the house that lives."""

import unittest

from anyprice.bases import Base
from anyprice.errors import BadNumber, BadPrices
from anyprice.houses import House
from anyprice.machines import Machine
from anyprice.refusals import BadMachine, BadRow, BadTable, BadTested, BadWord, NoTable, NotWatched, Uncoded
from anyprice.tested import tested_answer
from anyprice.wholeplans import best_whole, whole_front
from anyprice.wholes import is_whole, whole_amount
from helpers import EXAMPLE, NO_INTEGERS, NO_LISTS, NO_NUMBERS, NO_PRICES, Case, chance_of, is_at_most, product, some_function, spoil, swapped
from machinery import M, num, var
from test_questions import PAIR, PLAIN, some_base
from test_tested import NO_TESTED, OVER, TESTED, UNDER
from wholeways import SMALL, some_tested

ONE = (PLAIN, [("a", OVER)])
BARE = (PLAIN, [])
NO_WORDS = [None, True, 0, "", "A", "a1", "abcdefghi", "a b", [], ["one"], ("one",), {}, some_function, EXAMPLE]


class Failure(Exception):
    pass


def state_of(house):
    """All that a house tells."""
    words = list(house.watched())
    return (house.base_now().all_tables(), house.watched(), house.deeds_done(), house.last_changes(),
            {word: house.front_now(word) for word in words})


def tuples(thing):
    return tuple(tuples(inner) for inner in thing) if isinstance(thing, (list, tuple)) else thing


class Houses(Case):

    def check(self, house, machine, registers, prices=(1, 2, 3)):
        """What a house tells of its questions is what 19 tells of the base."""
        base = house.base_now()
        for word, tested in house.watched().items():
            self.tells(whole_front(base, tested, machine, registers), house.front_now, word)
            self.tells(tested_answer(base, tested), house.answer_now, word)
            whole = self.told(house.whole_now, word, prices)
            self.assertTrue(is_whole(base, tested, machine, registers, whole))
            least = min(product(amount, prices) for amount in house.front_now(word))
            self.assertEqual(product(whole_amount(base, tested, machine, registers, whole), prices), least)
            self.tells(True, house.still_best, word, whole, prices)

    def test_watching(self):
        house = House(PAIR, M, 3)
        self.tells({}, house.watched)
        self.tells([], house.last_changes)
        self.assertIsNone(house.watch("two", swapped(TESTED)))
        self.assertIsNone(house.watch(word="one", tested=ONE))
        self.tells({"one": tuples(ONE), "two": tuples(TESTED)}, house.watched)
        self.tells(["one"], house.last_changes)
        self.check(house, M, 3)
        self.tells([(3,)], house.answer_now, "two")
        self.assertIsNone(house.unwatch("two"))
        self.tells([], house.last_changes)
        self.tells({"one": tuples(ONE)}, house.watched)
        self.refuses(NotWatched, "word", "two", house.front_now, "two")
        self.assertEqual(house.deeds_done(), 3)
        self.assertTrue(house.base_now() == PAIR)

    def test_what_was_passed_and_told_can_change(self):
        tested = ([[["a", "a"], ["b", "b"]], [[["a", "k"], ["b", "k"]]], [], [["a", "k"]], None], [["a", ["sub", ["var", "k"], ["num", 2]]]])
        house = House(PAIR, M, 3)
        house.watch("one", tested)
        expected = house.watched()
        spoil(tested)
        spoil(house.watched())
        house.watched().clear()
        spoil(house.front_now("one"))
        spoil(list(house.whole_now("one", (1, 1, 1))))
        house.last_changes().clear()
        self.assertEqual(house.watched(), expected)
        self.assertEqual(expected, {"one": tuples(ONE)})
        self.check(house, M, 3)
        row = [7]
        house.put_row("a", row)
        row.append(8)
        self.assertEqual(house.base_now().all_tables()["a"][1][-1], (7,))

    def test_rows_that_come_and_go(self):
        house = House(PAIR, M, 3)
        house.watch("one", ONE)
        house.watch("bare", BARE)
        before = house.front_now("one"), house.front_now("bare")
        self.assertIsNone(house.put_row("a", [3]))
        self.tells(["bare", "one"], house.last_changes)
        self.tells([(3,), (3,), (4,)], house.answer_now, "one")
        self.assertIsNone(house.take_row(name="a", number=4))
        self.assertEqual((house.front_now("one"), house.front_now("bare")), before)
        self.tells(["bare", "one"], house.last_changes)
        self.assertTrue(house.base_now() == PAIR)
        base = Base({**PAIR.all_tables(), "c": (["k"], [], [])})
        other = House(base, M, 3)
        other.watch("one", ONE)
        other.put_row("c", (5,))
        # No source is in the table.
        self.tells([], other.last_changes)
        self.check(other, M, 3)

    def test_deeds_that_are_refused(self):
        house = House(PAIR, M.without("mul").without("mac"), 2)
        house.watch("one", ONE)
        house.put_row("a", (9,))
        house.undo_last()
        state = state_of(house)

        def refuses(error, name, kept, call, *passed):
            self.refuses(error, name, kept, call, *passed)
            self.assertEqual(state_of(house), state)

        for word in NO_WORDS + ["one"]:
            refuses(BadWord, "word", word, house.watch, word, ONE)
            refuses(BadWord, "word", word, house.watch, word, None)
        for thing in NO_TESTED:
            refuses(BadTested, "tested", thing, house.watch, "two", thing)
        refuses(Uncoded, "number", 1, house.watch, "two", (PLAIN, [("a", var("k")), ("b", ("mul", UNDER, OVER))]))
        for word in NO_WORDS + ["two"]:
            refuses(NotWatched, "word", word, house.unwatch, word)
            for call in (house.front_now, house.answer_now):
                refuses(NotWatched, "word", word, call, word)
            refuses(NotWatched, "word", word, house.whole_now, word, None)
            refuses(NotWatched, "word", word, house.still_best, word, None, None)
        for name in NO_LISTS + ["c", "A", ["a"], []]:
            if name != "a":
                refuses(NoTable, "name", name, house.put_row, name, None)
                refuses(NoTable, "name", name, house.take_row, name, None)
        for row in NO_LISTS + [[], [1, 2], ["1"], [True], [None]]:
            refuses(BadRow, "row", row, house.put_row, "a", row)
        for number in NO_INTEGERS + [-1, 4, 10 ** 20]:
            refuses(BadNumber, "number", number, house.take_row, "a", number)
        for prices in NO_PRICES + [(1, 1), (0, 1, 1), (1, True, 1), (1, 1, 1, 1), some_function]:
            refuses(BadPrices, "prices", prices, house.whole_now, "one", prices)
            refuses(BadPrices, "prices", prices, house.still_best, "one", None, prices)
        # What was taken back can still be done again.
        self.assertEqual(house.do_again(), "put_row")

    def test_making_one(self):
        for machine in NO_LISTS + [[], M.instructions()]:
            self.refuses(BadMachine, "machine", machine, House, PAIR, machine, 1)
            self.refuses(BadMachine, "machine", machine, House, PAIR, machine, 0)
        for registers in NO_NUMBERS + [0]:
            self.refuses(BadNumber, "number", registers, House, PAIR, M, registers)
        self.assertTrue(House(registers=1, machine=M, base=PAIR) == House(PAIR, M, 1))

    def test_equal(self):
        house, other = House(PAIR, M, 2), House(PAIR, Machine(M.instructions()), 2)
        self.assertTrue(house == other)
        house.watch("one", ONE)
        self.assertFalse(house == other)
        other.watch("one", swapped(ONE))
        self.assertTrue(house == other)
        other.unwatch("one")
        other.watch("one", BARE)
        self.assertFalse(house == other)
        other.undo_last()
        other.undo_last()
        self.assertTrue(house == other)
        self.assertFalse(house != other)
        house.put_row("a", (1,))
        self.assertFalse(house == other)
        other.put_row("a", (1,))
        other.put_row("b", (1,))
        other.take_row("b", 4)
        self.assertTrue(house == other)
        self.assertFalse(House(PAIR, M, 2) == House(PAIR, M, 3))
        self.assertFalse(House(PAIR, M, 2) == House(PAIR, M.without("mac"), 2))
        for thing in NO_LISTS + [[], PAIR, M]:
            self.assertFalse(house == thing)
            self.assertFalse(thing == house)

    def test_undoing_and_doing_again(self):
        house = House(PAIR, M, 3)
        self.assertIsNone(house.undo_last())
        self.assertIsNone(house.do_again())
        self.tells([], house.last_changes)
        states = [state_of(house)]
        deeds = [("watch", lambda: house.watch("one", ONE)), ("put_row", lambda: house.put_row("a", (3,))), ("watch", lambda: house.watch("bare", BARE)),
                 ("take_row", lambda: house.take_row("b", 0)), ("unwatch", lambda: house.unwatch("one")), ("put_row", lambda: house.put_row("b", (3,)))]
        changes = [[], ["one"], ["one"], ["bare"], ["bare", "one"], [], ["bare"]]
        for (name, work), told in zip(deeds, changes[1:]):
            work()
            self.tells(told, house.last_changes)
            states.append(state_of(house))
        for at in range(len(deeds) - 1, -1, -1):
            self.assertEqual(house.undo_last(), deeds[at][0])
            self.assertEqual(house.deeds_done(), at)
            self.assertEqual(state_of(house)[:2], states[at][:2])
            self.assertEqual(state_of(house)[4], states[at][4])
        self.tells([], house.last_changes)
        self.assertIsNone(house.undo_last())
        self.tells([], house.last_changes)
        for at in range(len(deeds)):
            self.assertEqual(house.do_again(), deeds[at][0])
            self.assertEqual(state_of(house), states[at + 1])
        self.assertIsNone(house.do_again())
        # Undoing unwatch: one was not watched then.
        house.undo_last()
        house.undo_last()
        self.tells(["one"], house.last_changes)
        house.put_row("a", (1,))
        self.assertIsNone(house.do_again())
        self.assertEqual(house.deeds_done(), 5)

    def test_twins(self):
        house = House(PAIR, M, 3)
        house.watch("one", ONE)
        house.put_row("a", (3,))
        house.put_row("b", (3,))
        house.undo_last()
        twin = house.twin_house()
        self.assertIsInstance(twin, House)
        self.assertTrue(twin == house)
        self.assertEqual(state_of(twin), state_of(house))
        self.assertEqual(twin.do_again(), "put_row")
        self.assertEqual(len(house.base_now().all_tables()["b"][1]), 4)
        twin.unwatch("one")
        self.assertEqual(list(house.watched()), ["one"])
        house.take_row("a", 0)
        self.assertEqual(len(twin.base_now().all_tables()["a"][1]), 5)
        self.assertIsNone(house.do_again())
        self.assertEqual([twin.undo_last() for _ in range(5)], ["unwatch", "put_row", "put_row", "watch", None])

    def test_trials(self):
        house = House(PAIR, M, 3)
        house.watch("one", ONE)
        house.put_row("a", (3,))
        house.undo_last()
        state = state_of(house)

        def inner(one, depth):
            self.assertIs(one, house)
            ahead = state_of(house)
            house.put_row("b", (depth,))
            house.watch("abcdefg"[depth], BARE)
            if depth < 6:
                self.assertEqual(house.try_out(lambda other: inner(other, depth + 1)), depth + 1)
            else:
                house.unwatch("one")
                while house.undo_last():
                    pass
                house.put_row("a", (1,))
            self.assertNotEqual(state_of(house), ahead)
            return depth

        self.assertEqual(house.try_out(lambda one: inner(one, 1)), 1)
        self.assertEqual(state_of(house), state)
        self.assertEqual(house.try_out(work=lambda one: one), house)

        def failing(one):
            one.take_row("a", 0)
            one.watch("two", BARE)
            raise Failure

        with self.assertRaises(Failure):
            house.try_out(failing)
        self.assertEqual(state_of(house), state)
        with self.assertRaises(NoTable):
            house.try_out(lambda one: one.try_out(lambda other: other.put_row("a", (5,)) or other.put_row("c", ())))
        self.assertEqual(state_of(house), state)
        self.assertEqual(house.do_again(), "put_row")

    def test_kept_plans(self):
        base = Base({"a": (["k"], [(number,) for number in range(9)], []), "b": (["k"], [(1,), (2,)], [])})
        house = House(base, M, 2)
        house.watch("one", (PLAIN, [("a", ("mul", var("k"), ("mul", var("k"), var("k")))), ("b", var("k"))]))
        wholes = [house.whole_now("one", (1, 1, 1))]
        self.tells(True, house.still_best, "one", wholes[0], (1, 1, 1))
        self.tells(True, house.still_best, "one", swapped(list(wholes[0])), [2, 2, 2])
        for number in range(12):
            house.put_row("b", (number % 9,))
            if number == 6:
                wholes.append(house.whole_now("one", (1, 1, 1)))
        wholes.append(house.whole_now("one", (1, 1, 1)))
        now = [self.told(house.still_best, "one", whole, (1, 1, 1)) for whole in wholes]
        tested, front = house.watched()["one"], house.front_now("one")
        least = min(map(sum, front))
        self.assertEqual(now, [sum(whole_amount(house.base_now(), tested, M, 2, whole)) == least for whole in wholes])
        self.assertEqual((now[0], now[-1]), (False, True))
        # With no rows left no code is run: what was a whole is none any more.
        for _ in range(9):
            house.take_row("a", 0)
        self.tells(False, house.still_best, "one", wholes[0], (1, 1, 1))
        for thing in NO_LISTS + [[], (), (wholes[0][0],), wholes[0][0]]:
            self.tells(False, house.still_best, "one", thing, (1, 1, 1))

    def test_by_chance(self):
        chance = chance_of(205)
        refused = turned = 0
        for _ in range(14):
            base = some_base(chance, 5)
            house, registers = House(base, SMALL, 3), 3
            for _ in range(18):
                before = {word: house.front_now(word) for word in house.watched()}
                ahead = state_of(house)
                name = chance.choice(["watch", "watch", "unwatch", "put_row", "put_row", "put_row", "take_row", "undo_last", "do_again"])
                try:
                    done = self.deed(chance, house, name)
                except (Uncoded, NotWatched, BadNumber, BadWord):
                    refused += 1
                    self.assertEqual(state_of(house), ahead)
                    continue
                if name in ("undo_last", "do_again") and done is None:
                    self.assertEqual(state_of(house), ahead)
                    continue
                changed = [word for word in house.watched() if word not in before or house.front_now(word) != before[word]]
                self.tells(sorted(changed), house.last_changes)
                turned += bool(changed) and name in ("put_row", "take_row")
                if name == "put_row":
                    for word in before:
                        for amount in house.front_now(word):
                            self.assertTrue(any(is_at_most(row, amount) for row in before[word]))
            self.check(house, SMALL, registers)
        self.assertGreater(refused, 10)
        self.assertGreater(turned, 10)

    def deed(self, chance, house, name):
        base = house.base_now()
        if name == "watch":
            return house.watch(chance.choice("abcdef"), some_tested(chance, base, chance.randint(1, 2), chance.randint(0, 2), 3))
        if name == "unwatch":
            return house.unwatch(chance.choice("abcdef"))
        table = chance.choice("tuv")
        if name == "put_row":
            return house.put_row(table, [chance.randint(0, 2) for _ in base.all_tables()[table][0]])
        if name == "take_row":
            return house.take_row(table, chance.randrange(6))
        return getattr(house, name)()

    def test_sixty_deeds_and_six_questions(self):
        chance = chance_of(206)
        tables = {name: (["k", "m", "n"], [tuple(chance.randint(0, 9) for _ in range(3)) for _ in range(30)], ["k"]) for name in "tuv"}
        house = House(Base(tables), SMALL, 3)
        joins = [(("p", "k"), ("q", "k")), (("q", "k"), ("r", "k"))]
        question = ([("p", "t"), ("q", "u"), ("r", "v")], joins, [], [("p", "m")], None)
        for number, word in enumerate("abcdef"):
            tests = [("p", ("sub", var("m"), num(number))), ("q", ("mul", var("n"), ("sub", num(7), var("m")))), ("r", var("n"))][:1 + number % 3]
            house.watch(word, (question, tests))
        for _ in range(54):
            if chance.random() < .5:
                house.put_row(chance.choice("tuv"), [chance.randint(0, 9) for _ in range(3)])
            else:
                house.take_row(chance.choice("tuv"), chance.randrange(20))
            house.last_changes()
        self.assertEqual(house.deeds_done(), 60)
        self.check(house, SMALL, 3)
        for _ in range(60):
            house.undo_last()
        self.assertTrue(house == House(Base(tables), SMALL, 3))

    def test_tables_stay_tables(self):
        self.assertRaises(BadTable, Base, {"a": ([], [], [])})
        house = House(Base({"a": (["k"], [], [])}), M, 1)
        house.watch("one", (([("x", "a")], [], [], [("x", "k")], None), [("x", var("k"))]))
        self.tells([(0, 0, 0)], house.front_now, "one")
        house.put_row("a", (4,))
        self.tells(best_whole(house.base_now(), house.watched()["one"], M, 1, (1, 1, 1)), house.whole_now, "one", (1, 1, 1))


if __name__ == "__main__":
    unittest.main()
