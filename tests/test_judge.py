"""Point 111: the judge of records, and houses by which a record is done again."""

import ast
import copy
import pathlib
import random
import unittest

import brute
import wearybeams
from samples import anything, great_yard, lived_in, otherwise, some_question, some_weighing, tiny_yards, two_beams
from wearybeams.errors import NoDeed
from wearybeams.house import House
from wearybeams.judge import again, judged
from wearybeams.yards import Yard


def records(seed, many, length):
    """Pairs of a tiny yard and the record of a house of it."""
    chance = random.Random(seed)
    return [(one, lived_in(House(one), one, chance, length).record()) for one in tiny_yards() for _ in range(many)]


def small_record():
    """A record of one yard, with each kind of entry and of answer."""
    one = Yard(["a"], [("x", 2)], most=3, lean=1)
    house = House(one)
    house.tell("x", "a", None, "left")
    house.ask(("apart", None, "a"))
    house.ask(("next", ("x", None, None)))
    house.tell("x", None, None, "right")
    house.undo()
    house.ask(("tied", (("x", None, None), ("x", "a", None)), "x"))
    house.ask(("tied", (("x", "a", None),), "x"))
    house.ask(("next", ("x", None, "a")))
    return one, house.record()


class Judged(unittest.TestCase):
    def test_of_records_that_are_so(self):
        kinds = set()
        for one, record in [*records(150, 6, 12), small_record()]:
            self.assertIsNone(judged(one, record))
            self.assertIsNone(judged(yard=one, record=tuple(record)))
            self.assertIsNone(brute.judged(one, record))
            kinds |= {entry[0] if entry[0] != "asked" else entry[1][0] for entry in record}
        self.assertEqual(kinds, {"row", "undo", "apart", "next", "tied"})

    def test_of_no_deeds(self):
        for record in [[], ()]:
            self.assertIsNone(judged(two_beams(), record))

    def test_one_thing_otherwise_at_any_place(self):
        one, record = small_record()
        seen = []
        for at, entry in enumerate(record):
            for thing in otherwise(entry):
                new = [*record[:at], thing, *record[at + 1:]]
                kept = copy.deepcopy(new)
                wanted = brute.judged(one, new)
                self.assertEqual(judged(one, new), wanted, thing)
                self.assertEqual(repr(new), repr(kept))
                seen.append((wanted, at))
        # each entry is told by its number, and what may stand otherwise is let by
        self.assertLessEqual({(at, at) for at in range(len(record))}, set(seen))
        self.assertIn(None, [wanted for wanted, _ in seen])

    def test_something_otherwise_in_records_of_houses(self):
        chance = random.Random(151)
        for one, record in records(152, 4, 12):
            for at in range(len(record)):
                things = otherwise(record[at])
                for thing in chance.sample(things, min(6, len(things))):
                    new = [*record[:at], thing, *record[at + 1:]]
                    self.assertEqual(judged(one, new), brute.judged(one, new), thing)

    def test_entries_left_out_told_twice_or_exchanged(self):
        chance = random.Random(153)
        seen = set()
        for one, record in records(154, 6, 10):
            for _ in range(6):
                at, to = (sorted(chance.sample(range(len(record)), 2)) if len(record) > 1 else (0, 0))
                for new in [record[:at] + record[at + 1:], record[:at] + record[to:to + 1] + record[at:],
                            record[:at] + record[to:to + 1] + record[at + 1:to] + record[at:at + 1] + record[to + 1:]]:
                    wanted = brute.judged(one, new)
                    self.assertEqual(judged(one, new), wanted)
                    seen.add(wanted if wanted is None else min(wanted, 3))
        self.assertEqual(seen, {None, 0, 1, 2, 3})

    def test_of_another_yard(self):
        one, record = small_record()
        for other in [Yard(["a"], [("x", 1)], most=3, lean=1), Yard(["a"], [("x", 2)], most=4, lean=1),
                      Yard(["b"], [("x", 2)], most=3, lean=1), Yard(["a"], [("x", 2)], most=3, lean=0)]:
            self.assertEqual(judged(other, record), brute.judged(other, record))
            self.assertIsNotNone(judged(other, record))

    def test_of_anything(self):
        one, record = small_record()
        for thing in anything():
            wanted = 0 if type(thing) not in (list, tuple) or len(thing) > 0 else None
            self.assertEqual(judged(one, thing), wanted)
            for new in [[*record, thing], [*record, (thing,)], [*record, ("asked", thing, thing)],
                        [*record, ("row", thing, thing)], [*record, ("undo", thing)], [*record, (thing, thing, thing)],
                        [*record, ("asked", ("next", thing), {})], [*record, ("asked", ("apart", None, "a"), thing)],
                        [*record, ("asked", ("next", ("x", None, "a")), thing)],
                        [*record, ("asked", ("tied", (), "x"), thing)],
                        [*record, ("asked", ("tied", thing, "x"), None)],
                        [*record, ("asked", ("tied", (), thing), None)], [*record, ["undo"]]]:
                self.assertEqual(judged(one, new), len(record), new)

    def test_undo_of_no_row(self):
        one = two_beams()
        self.assertEqual(judged(one, [("undo",)]), 0)
        house = House(one)
        house.tell("x", "a", "b", "left")
        house.undo()
        self.assertIsNone(judged(one, house.record()))
        self.assertEqual(judged(one, [*house.record(), ("undo",)]), 2)

    def test_other_answers_that_are_so(self):
        one, record = small_record()
        self.assertEqual(record[5][2], ("tie", {0: 1}, 1))
        for answer, wanted in [(("tie", {0: 3}, 3), None), (("tie", {0: 3}, 2), 5),
                               (("level", ({"a": 0}, {"x": 0})), 5)]:
            self.assertEqual(judged(one, [*record[:5], (*record[5][:2], answer), *record[6:]]), wanted)
        for world, wanted in [(({"a": 3}, {"x": 1}), None), (({"a": 1}, {"x": -1}), 0)]:
            self.assertEqual(judged(one, [(*record[0][:2], world), *record[1:]]), wanted)
        (low, high), = record[1][2][1][0]
        spans = (((low, low), (low, high)),)
        self.assertIsNone(judged(one, [record[0], ("asked", ("apart", None, "a"),
                                                   (record[1][2][0], spans, record[1][2][2]))]))

    def test_great_yards(self):
        chance = random.Random(155)
        one = great_yard(chance)
        house = House(one)
        world = ({thing: chance.randint(1, 100) for thing in one.things()}, {"x": 1, "y": -2, "z": 0})
        for row in brute.words(one, world, [some_weighing(one, chance) for _ in range(5)]):
            house.tell(*row)
        house.ask(("next", some_weighing(one, chance)))
        house.ask(("apart", "a", "b"))
        house.ask(("tied", tuple(some_weighing(one, chance) for _ in range(30)), "y"))
        record = house.record()
        self.assertIsNone(judged(one, record))
        for at in range(len(record)):
            for thing in chance.sample(otherwise(record[at]), 4):
                new = [*record[:at], thing, *record[at + 1:]]
                self.assertEqual(judged(one, new), brute.judged(one, new))

    def test_it_only_checks(self):
        # the judge looks for nothing: neither worlds nor rings are worked out by what it imports
        path = pathlib.Path(wearybeams.__file__).resolve().parent / "judge.py"
        used = {node.func.id for node in ast.walk(ast.parse(path.read_text()))
                if isinstance(node, ast.Call) and isinstance(node.func, ast.Name)}
        self.assertLessEqual({"is_sheet", "is_world", "is_tear", "is_tie", "is_levelling"}, used)
        self.assertEqual(used & {"sheet", "torn", "tied", "next_words", "some_world", "Net", "bar", "apart"}, set())


class Again(unittest.TestCase):
    def test_of_all_records(self):
        chance = random.Random(156)
        for one, record in [*records(157, 4, 12), small_record(), (two_beams(), [])]:
            kept = copy.deepcopy(record)
            house = again(yard=one, record=record)
            self.assertIs(type(house), House)
            self.assertEqual(house.record(), record)
            self.assertEqual([entry[0] for entry in again(one, tuple(record)).record()], [entry[0] for entry in record])
            log = []
            for entry in record:
                log = [*log, entry[1]] if entry[0] == "row" else log[:-1] if entry[0] == "undo" else log
            self.assertEqual(house.log(), log)
            # it goes on as a house does, and the record handed in stays
            house.ask(some_question(one, chance))
            lived_in(house, one, chance, 3)
            self.assertIsNone(judged(one, house.record()))
            self.assertEqual(record, kept)

    def test_its_record_is_its_own(self):
        one, record = small_record()
        tie = ("tie", {0: -3, 1: 0}, 3)
        other = [*record[:5], (*record[5][:2], ("tie", {0: 3}, 3)), *record[6:]]
        self.assertIsNone(judged(one, other))
        self.assertEqual(again(one, other).record(), record)
        self.assertRaises(NoDeed, again, one, [*record[:5], (*record[5][:2], tie)])

    def test_of_no_record(self):
        one, record = small_record()
        for thing in [*anything(), [*record, ("undo",), ("undo",)], record[1:], [None, *record]]:
            if thing not in ([], ()):
                with self.subTest(thing=thing):
                    self.assertRaises(NoDeed, again, one, thing)


if __name__ == "__main__":
    unittest.main()
