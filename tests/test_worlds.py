"""Point 12: worlds, the words that they give, and how far a log moves the leans."""

import copy
import random
import unittest

import brute
from samples import anything, otherwise, some_log, some_weighing, tiny_logs, tiny_yards
from wearybeams.errors import NoAsk, NoRow
from wearybeams.worlds import is_world, shifts, told_by
from wearybeams.yards import Yard


def yard():
    return Yard(["a", "b"], [("x", 2), ("y", -1)], most=6, lean=3)


def world():
    return ({"a": 5, "b": 2}, {"x": 1, "y": -3})


class Told(unittest.TestCase):
    def test_a_step_above_nought(self):
        log = told_by(yard(), world(), [("x", "a", "b")] * 4)
        self.assertEqual([row[3] for row in log], ["left", "left", "even", "even"])

    def test_a_step_above_nought_from_the_right(self):
        log = told_by(yard(), world(), [("x", "b", "a")] * 3)
        self.assertEqual(log, [("x", "b", "a", "right"), ("x", "b", "a", "even"), ("x", "b", "a", "even")])

    def test_it_goes_to_and_fro(self):
        log = told_by(yard(), world(), [("x", None, None)] * 4)
        self.assertEqual([row[3] for row in log], ["left", "right", "left", "right"])

    def test_a_step_below_nought(self):
        log = told_by(yard(), world(), [("y", "a", "b")] * 2 + [("y", "b", None)] * 2 + [("y", "a", None)])
        self.assertEqual([row[3] for row in log], ["even", "even", "right", "right", "even"])
        self.assertEqual(shifts(yard(), log), {"x": 0, "y": -2})
        log = told_by(yard(), world(), [("y", "a", None)] * 3)
        self.assertEqual([row[3] for row in log], ["left"] * 3)
        self.assertEqual(shifts(yard(), log), {"x": 0, "y": 3})

    def test_each_beam_tires_by_its_own_words_alone(self):
        log = told_by(yard(), world(), [("x", "a", "b"), ("y", "b", None), ("x", "a", "b"), ("y", "a", "b")])
        self.assertEqual(log, [
            ("x", "a", "b", "left"), ("y", "b", None, "right"), ("x", "a", "b", "left"), ("y", "a", "b", "right")])
        self.assertEqual(shifts(yard(), log), {"x": -4, "y": -2})

    def test_nothing_weighs_nought(self):
        log = told_by(yard(), world(), [("y", None, "b"), ("y", "a", None), ("x", None, "a"), ("x", "b", None)])
        self.assertEqual([row[3] for row in log], ["right", "left", "right", "left"])

    def test_a_thing_and_a_beam_of_one_name(self):
        one = Yard(["a"], [("a", 1)])
        self.assertEqual(told_by(one, ({"a": 2}, {"a": -2}), [("a", "a", None), ("a", None, "a")]), [
            ("a", "a", None, "even"), ("a", None, "a", "right")])

    def test_no_weighings(self):
        self.assertEqual(told_by(yard(), world(), []), [])
        self.assertEqual(told_by(yard(), world(), ()), [])

    def test_by_names(self):
        self.assertEqual(told_by(yard=yard(), world=world(), weighings=[("x", "a", "b")]), [("x", "a", "b", "left")])

    def test_many_rows_in_some_worlds(self):
        chance = random.Random(12)
        for one in tiny_yards():
            for many in [1, 7, 120]:
                weighings = [some_weighing(one, chance) for _ in range(many)]
                for given in chance.sample(brute.all_worlds(one), 5):
                    self.assertEqual(told_by(one, given, weighings), brute.words(one, given, weighings))

    def test_what_is_told_is_new_and_what_is_handed_in_stays(self):
        given, weighings = world(), [("x", "a", "b"), ("y", "b", None)]
        log = told_by(yard(), given, weighings)
        self.assertEqual((given, weighings), (world(), [("x", "a", "b"), ("y", "b", None)]))
        self.assertIs(type(log), list)
        self.assertEqual({type(row) for row in log}, {tuple})
        log.clear()
        self.assertEqual(len(told_by(yard(), given, weighings)), 2)

    def test_the_order_of_a_world_does_not_count(self):
        given = ({"b": 2, "a": 5}, {"y": -3, "x": 1})
        self.assertEqual(told_by(yard(), given, [("x", "a", "b"), ("y", "a", "b")]),
                         [("x", "a", "b", "left"), ("y", "a", "b", "even")])

    def test_of_no_world(self):
        for thing in [*anything(), ({"a": 5}, {"x": 1, "y": -3}), ({"a": 7, "b": 2}, {"x": 1, "y": -3}), *world(),
                      ({"a": 5, "b": 2}, {"x": 1, "y": -4}), [{"a": 5, "b": 2}, {"x": 1, "y": -3}]]:
            with self.subTest(thing=thing):
                self.assertRaises(NoAsk, told_by, yard(), thing, [])

    def test_of_what_is_no_list_of_weighings(self):
        good = ("x", "a", "b")
        for at, weighings in [(0, None), (0, {}), (0, "x"), (0, good), (0, [None]), (1, [good, ["x", "a", "b"]]),
                              (2, (good, good, ("x", "a", "b", "left"), None)), (0, [("x", "a", "a")])]:
            with self.subTest(weighings=weighings), self.assertRaises(NoRow) as caught:
                told_by(yard(), world(), weighings)
            self.assertEqual(caught.exception.at, at)

    def test_the_world_is_refused_ahead_of_the_weighings(self):
        self.assertRaises(NoAsk, told_by, yard(), None, None)


class Shifts(unittest.TestCase):
    def test_by_hand(self):
        log = [("x", "a", "b", "left"), ("y", "a", "b", "right"), ("x", "a", None, "right"), ("x", "a", "b", "even"),
               ("x", None, None, "right"), ("y", "b", "a", "right"), ("y", "b", "a", "left")]
        told = shifts(yard(), log)
        self.assertEqual(told, {"x": 2, "y": -1})
        self.assertEqual(list(told), ["x", "y"])

    def test_of_no_rows(self):
        self.assertEqual(shifts(yard(), []), {"x": 0, "y": 0})
        self.assertEqual(list(shifts(Yard(["a"], [("z", 1), ("b", 2)]), ())), ["z", "b"])

    def test_logs_that_no_world_gives(self):
        self.assertEqual(shifts(yard(), [("x", "a", "b", "right")] * 120), {"x": 240, "y": 0})
        self.assertEqual(shifts(yard(), [("y", "a", "b", "right")] * 60 + [("y", "a", "b", "left")] * 10)["y"], -50)

    def test_of_many_logs(self):
        for one, log in tiny_logs(1, 20):
            told = shifts(yard=one, log=log)
            self.assertEqual(told, brute.shifts(one, log))
            self.assertEqual(list(told), [name for name, _ in one.beams()])

    def test_how_a_beam_leans_behind(self):
        for one in tiny_yards():
            chance = random.Random(3)
            for _ in range(5):
                log = some_log(one, chance, 20)
                for given in brute.worlds(one, log)[:3]:
                    for beam, shift in shifts(one, log).items():
                        # nothing against nothing tells the sign of the lean alone
                        word = told_by(one, given, [row[:3] for row in log] + [(beam, None, None)])[-1][3]
                        lean = given[1][beam] + shift
                        self.assertEqual(word, "left" if lean > 0 else "even" if lean == 0 else "right")

    def test_odd_logs(self):
        for log in [None, 0, {}, "x", [None], [("x", "a", "b")], ("x", "a", "b", "left"), [("x", "a", "c", "left")]]:
            with self.subTest(log=log), self.assertRaises(NoRow) as caught:
                shifts(yard(), log)
            self.assertEqual(caught.exception.at, 0)

    def test_told_new(self):
        log = [("x", "a", "b", "left")]
        shifts(yard(), log)["x"] = 9
        self.assertEqual(shifts(yard(), log), {"x": -2, "y": 0})
        self.assertEqual(log, [("x", "a", "b", "left")])


class IsWorld(unittest.TestCase):
    def setUp(self):
        self.log = [("x", "a", "b", "left"), ("y", "a", "b", "even"), ("x", "b", None, "left")]

    def test_the_right_one(self):
        self.assertIs(is_world(yard(), self.log, world()), True)
        self.assertIs(is_world(yard=yard(), log=tuple(self.log), thing=world()), True)

    def test_of_no_rows_all_of_the_yard(self):
        for given in [world(), ({"a": 1, "b": 6}, {"x": -3, "y": 3})]:
            self.assertIs(is_world(yard(), [], given), True)

    def test_another_weight_or_lean(self):
        self.assertIs(is_world(yard(), self.log, ({"a": 4, "b": 2}, {"x": 1, "y": -3})), False)
        self.assertIs(is_world(yard(), self.log, ({"a": 5, "b": 2}, {"x": 1, "y": -2})), False)
        self.assertIs(is_world(yard(), self.log, ({"a": 5, "b": 2}, {"x": 2, "y": -3})), True)
        self.assertIs(is_world(yard(), self.log, ({"a": 5, "b": 2}, {"x": -3, "y": -3})), False)

    def test_dicts_in_another_order(self):
        self.assertIs(is_world(yard(), self.log, ({"b": 2, "a": 5}, {"y": -3, "x": 1})), True)

    def test_numbers_at_the_bounds(self):
        for a, wanted in [(0, False), (1, True), (6, True), (7, False)]:
            self.assertIs(is_world(yard(), [], ({"a": a, "b": 1}, {"x": 0, "y": 0})), wanted)
        for x, wanted in [(-4, False), (-3, True), (3, True), (4, False)]:
            self.assertIs(is_world(yard(), [], ({"a": 1, "b": 1}, {"x": x, "y": 0})), wanted)

    def test_what_is_none(self):
        weights, leans = world()
        for thing in [
                ({"a": 5}, leans), ({"a": 5, "b": 2, "c": 1}, leans), ({"a": 5, "c": 2}, leans), (weights, {"x": 1}),
                (weights, {"x": 1, "y": -3, "z": 0}), (weights, {"p": 1, "y": -3}), ({"a": True, "b": 2}, leans),
                (weights, {"x": True, "y": -3}), (weights, {"x": None, "y": -3}), ({"a": "5", "b": 2}, leans),
                [weights, leans], (weights,), weights, (weights, leans, leans), (leans, weights), (weights, weights),
                (weights, [("x", 1), ("y", -3)]), ({"a": 5, "b": [2]}, leans), ({"a": 5, None: 2}, leans), (None, None),
                ({"p": 5, "q": 2}, {"z": 1}), ({"a": (5,), "b": 2}, leans), ((), ()), ({}, {})]:
            with self.subTest(thing=thing):
                self.assertIs(is_world(yard(), [], thing), False)

    def test_true_is_no_weight(self):
        self.assertIs(is_world(yard(), [], ({"a": 1, "b": 1}, {"x": 1, "y": 0})), True)
        self.assertIs(is_world(yard(), [], ({"a": True, "b": 1}, {"x": 1, "y": 0})), False)
        self.assertIs(is_world(yard(), [], ({"a": 1, "b": 1}, {"x": 1, "y": False})), False)

    def test_of_anything(self):
        for thing in anything():
            with self.subTest(thing=thing):
                self.assertIs(is_world(yard(), self.log, thing), False)
                self.assertIs(is_world(yard(), self.log, (world()[0], thing)), False)
                self.assertIs(is_world(yard(), self.log, (thing, world()[1])), False)
                self.assertIs(is_world(yard(), [], ({"a": 5, "b": thing}, {"x": 1, "y": -3})),
                              type(thing) is int and thing in (1, 2))

    def test_something_otherwise(self):
        for thing in otherwise(world()):
            with self.subTest(thing=thing):
                self.assertIs(is_world(yard(), self.log, thing), brute.is_world(yard(), self.log, thing))

    def test_all_worlds_of_many_logs(self):
        for one, log in tiny_logs(2, 4):
            right = brute.worlds(one, log)
            for given in brute.all_worlds(one):
                self.assertIs(is_world(one, log, given), given in right)

    def test_odd_logs(self):
        for log in [None, 0, {}, [None], [("x", "a", "b")], [["x", "a", "b", "left"]]]:
            for thing in [world(), None]:
                with self.subTest(log=log), self.assertRaises(NoRow) as caught:
                    is_world(yard(), log, thing)
                self.assertEqual(caught.exception.at, 0)
        with self.assertRaises(NoRow) as caught:
            is_world(yard(), [*self.log, ("x", "a", "a", "left")], world())
        self.assertEqual(caught.exception.at, 3)

    def test_what_is_handed_in_stays(self):
        given, log = world(), copy.deepcopy(self.log)
        is_world(yard(), log, given)
        self.assertEqual((given, log), (world(), self.log))


if __name__ == "__main__":
    unittest.main()
