"""Point 20: ways by the steps of a log, their worths, and rings."""

import random
import unittest

import brute
from samples import anything, otherwise, tiny_logs
from wearybeams.errors import NoPan, NoRow
from wearybeams.ways import is_ring, led, steps_of, worth_at, worth_of
from wearybeams.yards import Yard

# shifts ahead: x 0, x -2, x -2, y 0, x 0, y -3
LOG = [
    ("x", "a", "b", "left"), ("x", "b", "a", "even"), ("x", None, "b", "right"), ("y", "b", None, "right"),
    ("x", None, None, "left"), ("y", None, None, "even")]


def yard():
    return Yard(["a", "b"], [("x", 2), ("y", -3)], most=9)


class Steps(unittest.TestCase):
    def step(self, start, step, end, worth):
        with self.subTest(step=step):
            self.assertEqual(led(yard(), LOG, start, (step,)), [end])
            self.assertEqual(worth_of(yard(), LOG, (step,)), worth)
            for other in [None, "a", "b"]:
                if other != start:
                    self.assertEqual(led(yard(), LOG, other, (step,)), [])
            self.assertIs(is_ring(yard(), LOG, (step,)), start == end)

    def test_left(self):
        self.step("a", (0, "least"), "b", (-1, (1, 0)))

    def test_even_lets_both_be_with_the_shift_ahead(self):
        self.step("b", (1, "least"), "a", (-2, (1, 0)))
        self.step("a", (1, "most"), "b", (2, (-1, 0)))

    def test_right(self):
        self.step("b", (2, "most"), None, (1, (-1, 0)))
        self.step(None, (3, "most"), "b", (-1, (0, -1)))

    def test_nothing_in_both_pans(self):
        self.step(None, (4, "least"), None, (-1, (1, 0)))
        self.step(None, (5, "least"), None, (-3, (0, 1)))
        self.step(None, (5, "most"), None, (3, (0, -1)))

    def test_of_the_yard(self):
        self.step(None, ("most", "a"), "a", (9, (0, 0)))
        self.step(None, ("most", "b"), "b", (9, (0, 0)))
        self.step("a", ("least", "a"), None, (-1, (0, 0)))
        self.step("b", ("least", "b"), None, (-1, (0, 0)))

    def test_in_order(self):
        # of steps that are worth the same a net tells the first, so their order stays
        self.assertEqual(list(steps_of(yard(), LOG)), [
            (0, "least"), (1, "least"), (1, "most"), (2, "most"), (3, "most"), (4, "least"), (5, "least"), (5, "most"),
            ("most", "a"), ("least", "a"), ("most", "b"), ("least", "b")])

    def test_there_are_no_others(self):
        there = [(0, "least"), (1, "least"), (1, "most"), (2, "most"), (3, "most"), (4, "least"), (5, "least"),
                 (5, "most")]
        for at in range(-7, 8):
            for word in ["least", "most", "even", "left", "right", ""]:
                found = [pan for pan in [None, "a", "b"] if led(yard(), LOG, pan, ((at, word),)) != []]
                self.assertEqual(len(found), int((at, word) in there), (at, word))


class Ways(unittest.TestCase):
    def test_the_empty_way(self):
        for pan in [None, "a", "b"]:
            self.assertEqual(led(yard(), LOG, pan, ()), [pan])
        self.assertEqual(worth_of(yard(), LOG, ()), (0, (0, 0)))
        self.assertIs(is_ring(yard(), LOG, ()), False)

    def test_behind_one_another(self):
        way = (("most", "a"), (0, "least"), (2, "most"), (4, "least"), (5, "most"))
        self.assertEqual([led(yard(), LOG, None, way[:many]) for many in range(6)],
                         [[None], ["a"], ["b"], [None], [None], [None]])
        self.assertEqual(worth_of(yard(), LOG, way), (9 - 1 + 1 - 1 + 3, (1, -1)))

    def test_worths_of_parts_come_together(self):
        one, other = ((0, "least"), (1, "least")), ((0, "least"), ("least", "b"))
        self.assertEqual(worth_of(yard(), LOG, one), (-3, (2, 0)))
        self.assertEqual(worth_of(yard(), LOG, other), (-2, (1, 0)))
        self.assertEqual(led(yard(), LOG, "a", one + other), [None])
        self.assertEqual(worth_of(yard(), LOG, one + other), (-5, (3, 0)))

    def test_one_step_many_times(self):
        self.assertEqual(worth_of(yard(), LOG, ((5, "least"),) * 100), (-300, (0, 100)))
        self.assertIs(is_ring(yard(), LOG, ((5, "least"),) * 100), True)

    def test_kinds_of_what_is_told(self):
        told = worth_of(yard(), LOG, ((0, "least"),))
        self.assertIs(type(told), tuple)
        self.assertEqual([type(part) for part in told], [int, tuple])
        self.assertIs(type(led(yard(), LOG, "a", ())), list)

    def test_by_names(self):
        self.assertEqual(led(yard=yard(), log=LOG, pan="a", thing=((0, "least"),)), ["b"])
        self.assertEqual(worth_of(yard=yard(), log=LOG, way=((0, "least"),)), (-1, (1, 0)))
        self.assertEqual(worth_at(worth=(1, (2, 3)), leans=(10, 100)), 321)
        self.assertIs(is_ring(yard=yard(), log=LOG, thing=((4, "least"),)), True)

    def test_a_log_as_a_tuple(self):
        self.assertEqual(led(yard(), tuple(LOG), "a", ((0, "least"),)), ["b"])


class NoWays(unittest.TestCase):
    def none(self, thing):
        with self.subTest(thing=thing):
            for pan in [None, "a", "b"]:
                self.assertEqual(led(yard(), LOG, pan, thing), [])
            self.assertIs(is_ring(yard(), LOG, thing), False)

    def test_steps_that_are_none(self):
        for step in [
                (6, "least"), (-1, "least"), (0, "most"), (2, "least"), (3, "least"), (4, "most"), (False, "least"),
                (True, "least"), (True, "most"), [0, "least"], (0, "least", None), (0,), (), ("least", 0), (0, "left"),
                ("most", "c"), ("least", "x"), ("most", None), ("most", ["a"]), ("least",), ("most", "a", "a"),
                ("even", "a"), (0, ("least",)), ((0,), "least"), (None, "least"), ("0", "least"), "least", None, 0,
                {0: "least"}, ("most", {}), ([0], "least"), ("most", 0), ("a", "most")]:
            self.none((step,))
            self.none((step, step))

    def test_what_is_no_tuple(self):
        for thing in [[], [(0, "least")], {}, None, 0, True, "", "least", (0, "least"), ("most", "a")]:
            self.none(thing)

    def test_a_step_from_elsewhere(self):
        self.none(((0, "least"), (0, "least")))
        self.none(((0, "least"), ("most", "a")))
        self.none((("most", "a"), ("least", "b")))

    def test_a_good_way_ahead_or_behind(self):
        for bad in [(7, "least"), None, [4, "least"], (True, "least")]:
            self.assertEqual(led(yard(), LOG, None, ((4, "least"), bad)), [])
            self.assertIs(is_ring(yard(), LOG, ((4, "least"), bad)), False)
            self.assertIs(is_ring(yard(), LOG, (bad, (4, "least"))), False)

    def test_another_yards_things(self):
        other = Yard(["c", "b"], [("x", 2), ("y", -3)], most=9)
        self.assertEqual(led(other, [], None, (("most", "c"),)), ["c"])
        self.assertEqual(led(other, [], None, (("most", "a"),)), [])

    def test_of_anything(self):
        for thing in anything():
            if thing != ():
                self.none(thing)
            self.none((thing,))
            self.none(((thing, "least"),) if thing not in [0, 1, 4, 5] or type(thing) is bool else None)
            self.none((("most", thing),) if thing != "a" else None)
            self.assertEqual(led(yard(), LOG, "a", ((0, "least"), thing)), [])

    def test_something_otherwise(self):
        chance = random.Random(20)
        way = (("most", "a"), (0, "least"), (1, "least"), (1, "most"), (2, "most"))
        walker = brute.Walker(yard(), LOG)
        for thing in chance.sample(otherwise(way), 80):
            for pan in [None, "a", "b"]:
                self.assertEqual(led(yard(), LOG, pan, thing), walker.walk(pan, thing), thing)
            self.assertIs(is_ring(yard(), LOG, thing), walker.is_ring(thing), thing)


class Rings(unittest.TestCase):
    def test_rings(self):
        for ring in [
                ((4, "least"),), ((5, "least"),), ((5, "most"),), (("most", "a"), ("least", "a")),
                (("least", "a"), ("most", "a")), ((0, "least"), (1, "least")), ((1, "most"), (1, "least")),
                (("most", "a"), (0, "least"), (2, "most")), ((0, "least"), (2, "most"), ("most", "a")),
                (("most", "a"), ("least", "a")) * 3, (("least", "b"), (4, "least"), ("most", "b"))]:
            with self.subTest(ring=ring):
                self.assertIs(is_ring(yard(), LOG, ring), True)

    def test_ways_that_do_not_come_back(self):
        for way in [((0, "least"),), (("most", "a"),), (("most", "a"), (0, "least")), ((4, "least"), ("most", "b"))]:
            with self.subTest(way=way):
                self.assertIs(is_ring(yard(), LOG, way), False)


class WorthAt(unittest.TestCase):
    def test_by_hand(self):
        self.assertEqual(worth_at((5, (0,)), (3,)), 5)
        self.assertEqual(worth_at((5, (-2,)), (3,)), -1)
        self.assertEqual(worth_at((-1, (1, -1, 2)), (3, -2, 1)), 6)
        self.assertEqual(worth_at((0, (1, 1)), (-3, 3)), 0)


class Refusals(unittest.TestCase):
    def test_no_pan_of_anything(self):
        for pan in anything():
            if pan is not None and pan != "a":
                with self.subTest(pan=pan), self.assertRaises(NoPan) as caught:
                    led(yard(), LOG, pan, ())
                self.assertEqual(caught.exception.pan, pan)

    def test_no_row_ahead_of_no_pan(self):
        for log in [None, {}, [None], ("x", "a", "b", "left"), [("x", "a", "b", "up")]]:
            for call in [lambda: led(yard(), log, "c", ()), lambda: led(yard(), log, "a", ()),
                         lambda: worth_of(yard(), log, ()), lambda: is_ring(yard(), log, ())]:
                with self.subTest(log=log), self.assertRaises(NoRow) as caught:
                    call()
                self.assertEqual(caught.exception.at, 0)
        with self.assertRaises(NoRow) as caught:
            led(yard(), [*LOG, None], "c", None)
        self.assertEqual(caught.exception.at, 6)


class InWorlds(unittest.TestCase):
    def test_what_ways_promise(self):
        chance = random.Random(21)
        for one, log in tiny_logs(22, 4):
            walker = brute.Walker(one, log)
            steps = list(walker.steps)
            right = brute.worlds(one, log)
            for _ in range(20):
                start = pan = chance.choice(brute.pans(one))
                way = ()
                for _ in range(chance.randint(0, 6)):
                    step = chance.choice([step for step in steps if walker.steps[step][0] == pan])
                    way, pan = (*way, eval(step)), walker.steps[step][1]
                self.assertEqual(led(one, log, start, way), [pan])
                self.assertEqual(worth_of(one, log, way), walker.worth(way))
                self.assertIs(is_ring(one, log, way), way != () and start == pan)
                for world in right:
                    self.assertLessEqual(brute.heavier(world, start, pan),
                                         worth_at(worth_of(one, log, way), brute.leans_in(one, world)))


if __name__ == "__main__":
    unittest.main()
