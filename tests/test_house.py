"""Point 110: houses, their rows and questions, and their record."""

import copy
import random
import unittest

import brute
from samples import anything, great_yard, lived_in, some_question, some_weighing, tiny_yards, two_beams
from wearybeams.errors import NoAsk, NoBeam, NoPan, NoRow, Torn
from wearybeams.house import House
from wearybeams.levels import tied
from wearybeams.nets import Net
from wearybeams.sheets import is_sheet, sheet
from wearybeams.torn import is_tear
from wearybeams.words import next_words
from wearybeams.yards import Yard


def emptied(thing):
    """Empties all that can be emptied in a thing, however deep."""
    if type(thing) in (list, tuple):
        for part in thing:
            emptied(part)
    if type(thing) is dict:
        for part in thing.values():
            emptied(part)
    if type(thing) in (list, dict):
        thing.clear()


class Telling(unittest.TestCase):
    def test_rows_that_can_come_and_rows_that_tear(self):
        chance = random.Random(140)
        seen = []
        for one in tiny_yards() * 3:
            house, log = House(one), []
            for _ in range(8):
                row = (*some_weighing(one, chance), chance.choice(brute.WORDS))
                can = brute.worlds(one, [*log, row]) != []
                if can:
                    self.assertIsNone(house.tell(*row))
                    log.append(row)
                else:
                    kept = house.record()
                    with self.assertRaises(Torn) as caught:
                        house.tell(*row)
                    self.assertTrue(brute.Walker(one, [*log, row]).is_tear(caught.exception.rings))
                    self.assertEqual(house.record(), kept)
                self.assertEqual(house.log(), log)
                seen.append(can)
        self.assertGreater(seen.count(True), 50)
        self.assertGreater(seen.count(False), 20)

    def test_by_hand(self):
        house = House(yard=Yard(["a"], [("x", 1)], most=3, lean=0))
        self.assertEqual((house.log(), house.record(), house.undo()), ([], [], False))
        self.assertIsNone(house.tell(beam="x", left="a", right=None, word="left"))
        with self.assertRaises(Torn) as caught:
            house.tell("x", None, "a", "even")
        self.assertIs(is_tear(Yard(["a"], [("x", 1)], most=3, lean=0),
                              [("x", "a", None, "left"), ("x", None, "a", "even")], caught.exception.rings), True)
        house.tell("x", "a", None, "left")
        self.assertEqual(house.log(), [("x", "a", None, "left")] * 2)
        self.assertIs(house.undo(), True)
        self.assertEqual(house.log(), [("x", "a", None, "left")])
        kind, row, world = house.record()[0]
        self.assertEqual((kind, row, [entry[0] for entry in house.record()]),
                         ("row", ("x", "a", None, "left"), ["row", "row", "undo"]))
        self.assertTrue(brute.is_world(Yard(["a"], [("x", 1)], most=3, lean=0), [row], world))
        self.assertEqual(house.record()[2], ("undo",))
        self.assertEqual([house.undo(), house.undo()], [True, False])
        self.assertEqual((house.log(), len(house.record())), ([], 4))

    def test_a_torn_row_may_be_told_behind_an_undo(self):
        house = House(Yard(["a"], [("x", 1)], most=3, lean=0))
        house.tell("x", "a", None, "left")
        self.assertRaises(Torn, house.tell, "x", None, None, "even")
        house.undo()
        self.assertIsNone(house.tell("x", None, None, "even"))

    def test_great_yards(self):
        chance = random.Random(141)
        one = great_yard(chance)
        world = ({thing: chance.randint(1, 100) for thing in one.things()}, {"x": 1, "y": -2, "z": 0})
        house = House(one)
        for row in brute.words(one, world, [some_weighing(one, chance) for _ in range(12)]):
            house.tell(*row)
        for at, (kind, row, shown) in enumerate(house.record()):
            self.assertEqual((kind, row), ("row", house.log()[at]))
            self.assertTrue(brute.is_world(one, house.log()[:at + 1], shown))


class Asking(unittest.TestCase):
    def test_what_the_three_questions_tell(self):
        chance = random.Random(142)
        kinds = set()
        for one in tiny_yards() * 3:
            house = lived_in(House(one), one, chance, 6)
            for _ in range(4):
                question = some_question(one, chance)
                net, ahead = Net(one, house.log()), house.record()
                if question[0] == "apart":
                    wanted = sheet(net, question[1], question[2])
                elif question[0] == "next":
                    wanted = next_words(net, question[1])
                else:
                    wanted = tied(one, question[1], question[2])
                told = house.ask(question=question)
                self.assertEqual((type(told), repr(told)), (type(wanted), repr(wanted)))
                self.assertTrue(brute.is_answer(one, house.log(), question, told))
                self.assertEqual(house.record(), [*ahead, ("asked", question, told)])
                kinds.add(question[0])
        self.assertEqual(len(kinds), 3)

    def test_what_is_refused(self):
        house = House(two_beams())
        house.tell("x", "a", "b", "left")
        kept = house.record()
        good = ("x", "a", "b")
        cases = [(("apart", "z", "q"), NoPan, "pan", "z"), (("apart", "a", "q"), NoPan, "pan", "q"),
                 (("apart", ["a"], "b"), NoPan, "pan", ["a"]), (("apart", 0, "b"), NoPan, "pan", 0),
                 (("next", None), NoRow, "at", 0), (("next", ("x", "a", "a")), NoRow, "at", 0),
                 (("next", ("x", "a", "b", "left")), NoRow, "at", 0), (("next", "x"), NoRow, "at", 0),
                 (("next", (good,)), NoRow, "at", 0), (("tied", (good, good, None), "x"), NoRow, "at", 2),
                 (("tied", good, "q"), NoRow, "at", 0), (("tied", (good,), "q"), NoBeam, "beam", "q"),
                 (("tied", (), ["x"]), NoBeam, "beam", ["x"]), (("tied", (), None), NoBeam, "beam", None)]
        for question, error, field, wanted in cases:
            with self.subTest(question=question), self.assertRaises(error) as caught:
                house.ask(question)
            self.assertEqual(getattr(caught.exception, field), wanted)
        for question in [*anything(), ["apart", "a", "b"], ("apart", "a"), ("apart", "a", "b", "a"), ("apart",),
                         ["next", good], ("next",), ("next", good, good), ("next", *good), ("tied", [good], "x"),
                         ("tied", [], "x"), ("tied", None, "x"), ("tied", "x", "x"), ("tied", {}, "x"), ("tied", "x"),
                         ("tied", (good,)), ["tied", (good,), "x"], ("tied", (good,), "x", "x"), ("far", "a", "b"),
                         (["apart"], "a", "b"), ("first", "x"), (None, "a", "b"), ("", good)]:
            with self.subTest(question=question):
                self.assertRaises(NoAsk, house.ask, question)
        self.assertEqual((house.record(), house.log()), (kept, [("x", "a", "b", "left")]))


class NoRows(unittest.TestCase):
    def test_of_all_that_makes_no_row(self):
        house = House(two_beams())
        for at in range(4):
            for thing in [*anything(), "z"]:
                row = ["x", "a", "b", "left"]
                row[at] = thing
                if thing == "x" and at == 0 or thing is None and at in (1, 2) or thing == "a" and at == 1 \
                        or thing == "left" and at == 3:
                    continue
                with self.subTest(row=row), self.assertRaises(NoRow) as caught:
                    house.tell(*row)
                self.assertEqual(caught.exception.at, 0)
        self.assertEqual((house.log(), house.record()), ([], []))
        # of the row, not of its place in the log
        house.tell("x", "a", "b", "left")
        kept = house.record()
        for row in [("x", "a", "a", "left"), ("q", "z", "z", None), (None, None, None, "even")]:
            with self.assertRaises(NoRow) as caught:
                house.tell(*row)
            self.assertEqual(caught.exception.at, 0)
        self.assertEqual(house.record(), kept)


class Own(unittest.TestCase):
    def test_what_is_told_is_the_askers_own_however_deep(self):
        chance = random.Random(143)
        for one in tiny_yards():
            house = lived_in(House(one), one, chance, 12)
            kept = copy.deepcopy(house.record())
            log = house.log()
            for _ in range(2):
                emptied(house.record())
                emptied(house.log())
            self.assertEqual((house.record(), house.log()), (kept, log))
            beam = one.beams()[0][0]
            for question in [("apart", None, "a"), ("next", (beam, None, "a")), ("tied", (), beam)]:
                told = house.ask(question)
                wanted = copy.deepcopy(told)
                emptied(told)
                self.assertEqual(house.record()[-1], ("asked", question, wanted))
                self.assertEqual(house.ask(question), wanted)

    def test_houses_of_one_yard_have_their_own_logs(self):
        one = two_beams()
        first, second = House(one), House(one)
        first.tell("x", "a", "b", "left")
        self.assertEqual((second.log(), second.record(), len(first.log())), ([], [], 1))
        self.assertIs(is_sheet(one, first.log(), "a", "b", first.ask(("apart", "a", "b"))), True)


if __name__ == "__main__":
    unittest.main()
