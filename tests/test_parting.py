"""Point 80: how weighings rest, and which worlds are alike for ever."""

import random
import unittest

import brute
from samples import anything, falling_yard, great_yard, rising_logs, rising_yards, some_weighing
from wearybeams.errors import NoAsk, NoRow, NoStep, TooMany
from wearybeams.nets import Net
from wearybeams.parting import alike, classes, parting, rested, rests
from wearybeams.yards import Yard

TURNED = {"left": "right", "right": "left"}


def rising_great_yard(chance):
    """A great yard of steps above 0."""
    one = great_yard(chance)
    return Yard(one.things(), [(name, abs(step)) for name, step in one.beams()], most=100, lean=3)


def any_world(one, chance):
    return ({thing: chance.randint(1, one.most()) for thing in one.things()},
            {beam: chance.randint(-one.lean(), one.lean()) for beam, _ in one.beams()})


def rest_of(said):
    """How a row of words of one weighing rests: it is long enough."""
    first = said[0]
    many = [word == first and word != "even" for word in said].index(False)
    behind = said[many:]
    if behind[0] == "even":
        assert set(behind) == {"even"}
        return (many, "even")
    assert behind == [TURNED[first] if at % 2 == 0 else first for at in range(len(behind))]
    return (many, "fro")


def rested_of(one, world, weighings):
    """The log of weighings, each done until its word is even, or unlike its own first one."""
    log = []
    for weighing in weighings:
        said = []
        while not said or said[-1] == said[0] and said[-1] != "even":
            log = brute.words(one, world, [*[row[:3] for row in log], weighing])
            said.append(log[-1][3])
    return log


class Rests(unittest.TestCase):
    def test_of_all_worlds(self):
        seen = set()
        for one in rising_yards():
            for world in brute.all_worlds(one):
                for weighing in brute.weighings(one):
                    said = [row[3] for row in brute.words(one, world, [weighing] * 30)]
                    told = rests(one, world, weighing)
                    self.assertEqual(told, rest_of(said))
                    seen.add((type(told), *told, said[0]))
        self.assertLessEqual({(tuple, 0, "even", "even"), (tuple, 1, "even", "left"), (tuple, 2, "even", "right"),
                              (tuple, 1, "fro", "left"), (tuple, 2, "fro", "right"), (tuple, 3, "fro", "left")}, seen)

    def test_by_hand(self):
        one = Yard(["a"], [("x", 3), ("y", 1)], most=100, lean=9)
        for weight, lean, left, right, wanted in [
                (6, 0, "a", None, (2, "even")), (7, 0, "a", None, (3, "fro")), (5, 0, "a", None, (2, "fro")),
                (6, 0, None, "a", (2, "even")), (7, 0, None, "a", (3, "fro")), (7, 7, None, "a", (0, "even")),
                (1, 0, "a", None, (1, "fro")), (1, -9, None, None, (3, "even")), (100, 9, "a", None, (37, "fro"))]:
            self.assertEqual(rests(one, ({"a": weight}, {"x": lean, "y": 0}), ("x", left, right)), wanted)
        self.assertEqual(rests(yard=one, world=({"a": 100}, {"y": 9, "x": 0}), weighing=("y", "a", None)),
                         (109, "even"))


class Rested(unittest.TestCase):
    def test_of_some_worlds(self):
        chance = random.Random(100)
        for one in [*rising_yards(), *[rising_great_yard(chance) for _ in range(6)]]:
            for _ in range(12):
                world = any_world(one, chance)
                weighings = [some_weighing(one, chance) for _ in range(chance.choice([0, 1, 2, 5]))]
                told = rested(one, world, weighings)
                self.assertEqual(told, rested_of(one, world, weighings))
                self.assertEqual({type(row) for row in told} - {tuple}, set())
                self.assertEqual(rested(yard=one, world=world, weighings=tuple(weighings)), told)

    def test_by_hand(self):
        one = Yard(["a"], [("x", 2), ("y", 1)], most=9, lean=1)
        world = ({"a": 4}, {"x": 1, "y": 0})
        full = [("x", "a", None, "left")] * 3 + [("x", "a", None, "right")]
        self.assertEqual(rested(one, world, [("x", "a", None)]), full)
        # the weighing begins anew where it went to and fro, and by another beam leans are as they were
        self.assertEqual(rested(one, world, [("x", "a", None), ("x", "a", None), ("y", None, None)]),
                         [*full, ("x", "a", None, "left"), ("x", "a", None, "right"), ("y", None, None, "even")])
        self.assertEqual(rested(one, world, []), [])

    def test_longer_than_any_log_handed_in(self):
        one = Yard(["a"], [("x", 1)], most=100, lean=0)
        told = rested(one, ({"a": 100}, {"x": 0}), [("x", "a", None), ("x", None, "a")])
        self.assertEqual([row[3] for row in told], ["left"] * 100 + ["even"] + ["right"] * 200 + ["even"])

    def test_what_is_handed_in_stays(self):
        one, world, weighings = rising_yards()[0], ({"a": 3}, {"x": 1}), [("x", "a", None)]
        told = rested(one, world, weighings)
        told.clear()
        self.assertEqual((world, weighings), (({"a": 3}, {"x": 1}), [("x", "a", None)]))
        self.assertEqual(len(rested(one, world, weighings)), 5)


class Parting(unittest.TestCase):
    def check(self, one, log, world, other, told):
        """That these weighings part two worlds behind a log, all at one beam."""
        self.assertEqual((type(told), len({weighing[0] for weighing in told})), (list, 1))
        done = [row[:3] for row in log]
        self.assertNotEqual(brute.words(one, world, done + told), brute.words(one, other, done + told))

    def test_all_pairs_of_worlds(self):
        chance = random.Random(101)
        seen = set()
        for one in rising_yards():
            every = brute.all_worlds(one)
            pairs = [(world, other) for world in every for other in every]
            for world, other in chance.sample(pairs, min(len(pairs), 250)):
                wanted = brute.fewest_parting(one, world, other, [])
                told = parting(one, world, other)
                self.assertEqual(None if told is None else len(told), wanted)
                self.assertIs(alike(one, world, other), wanted is None)
                if told is not None:
                    self.check(one, [], world, other, told)
                seen.add((wanted, world == other))
        self.assertLessEqual({(None, False), (None, True), (1, False), (2, False), (3, False)}, seen)

    def test_behind_logs_that_both_give(self):
        chance = random.Random(102)
        seen = set()
        for one, log in rising_logs(103, 12):
            right = brute.worlds(one, log)
            pairs = [(world, other) for world in right for other in right]
            for world, other in chance.sample(pairs, min(len(pairs), 20)):
                wanted = brute.fewest_parting(one, world, other, log)
                told = parting(one, world, other, log=log)
                self.assertEqual(None if told is None else len(told), wanted)
                self.assertIs(alike(one, world, other), wanted is None)
                self.assertEqual(parting(yard=one, one=world, other=other, log=tuple(log)), told)
                if told is not None:
                    self.check(one, log, world, other, told)
                seen.add((wanted, len(log) > 0))
        self.assertLessEqual({(None, True), (1, True), (2, True), (3, True)}, seen)

    def test_all_weighings_stay_alike_however_long(self):
        chance = random.Random(104)
        one = rising_yards()[5]
        lot = max(brute.lots(one, brute.all_worlds(one)), key=len)
        self.assertGreater(len(lot), 1)
        for _ in range(20):
            weighings = [some_weighing(one, chance) for _ in range(300)]
            told = brute.words(one, lot[0], weighings)
            for other in lot[1:]:
                self.assertIs(alike(yard=one, one=lot[0], other=other), True)
                self.assertEqual(brute.words(one, other, weighings), told)

    def test_by_hand(self):
        one = Yard(["a"], [("x", 3), ("y", 5)], most=20, lean=0)

        def world(weight):
            return ({"a": weight}, {"x": 0, "y": 0})

        self.assertIs(alike(one, world(1), world(2)), True)
        self.assertIs(alike(one, world(2), world(3)), False)
        self.assertEqual(parting(one, world(2), world(3)), [("x", None, "a")] * 2)
        # 18 is even at x behind six words; 20 is so at y behind four
        self.assertEqual(len(parting(one, world(17), world(18))), 7)
        self.assertEqual(parting(one, world(19), world(20)), [("y", None, "a")] * 5)
        log = [("x", "a", None, "left")] * 5
        self.assertEqual(len(parting(one, world(17), world(18), log=log)), 2)
        self.assertEqual(parting(one, world(18), world(18)), None)

    def test_great_yards(self):
        chance = random.Random(105)
        for _ in range(12):
            one = rising_great_yard(chance)
            world = any_world(one, chance)
            other = (dict(world[0]), dict(world[1]))
            other[0]["c"] = max(1, other[0]["c"] - 1)
            told = parting(one, world, other)
            # a beam of step 1 tells all
            if 1 in [step for _, step in one.beams()]:
                self.assertIs(told is None, world == other)
            if told is not None:
                self.check(one, [], world, other, told)
                self.assertIsNone(parting(one, world, world))

    def test_worlds_of_dicts_in_another_order(self):
        one = rising_yards()[3]
        world, other = ({"a": 1, "b": 3}, {"x": 1, "a": 0}), ({"b": 3, "a": 1}, {"a": 0, "x": 1})
        self.assertIs(alike(one, world, other), True)

    def test_the_askers_own(self):
        one = rising_yards()[0]
        told = parting(one, ({"a": 1}, {"x": 0}), ({"a": 2}, {"x": 0}))
        kept = list(told)
        told.clear()
        self.assertEqual(parting(one, ({"a": 1}, {"x": 0}), ({"a": 2}, {"x": 0})), kept)


class Classes(unittest.TestCase):
    def test_of_all_worlds(self):
        seen = set()
        for one, log in rising_logs(106, 4):
            right = brute.worlds(one, log)
            told = classes(Net(one, log))
            self.assertEqual(told, len(brute.lots(one, right)))
            seen.add((told == len(right), told == 1))
        self.assertLessEqual({(True, True), (True, False), (False, False)}, seen)

    def test_of_a_torn_log(self):
        one = Yard(["a", "b"], [("x", 2), ("y", 1)], most=6, lean=2)
        self.assertEqual(classes(net=Net(one, [("x", None, "a", "left")] * 2)), 0)

    def test_of_many_worlds(self):
        # by steps of 1 and 2 all is told in the end, by a step of 3 two sums of every three are alike
        self.assertEqual(classes(Net(Yard(["a"], [("x", 1), ("y", 2)], most=100, lean=2), [])), 2500)
        self.assertEqual(classes(Net(Yard(["a"], [("x", 3)], most=99, lean=0), [])), 66)
        self.assertEqual(classes(Net(Yard(["a"], [("x", 5)], most=100, lean=0), [])), 40)
        self.assertEqual(classes(Net(Yard(["a"], [("x", 5)], most=4, lean=0), [])), 1)

    def test_just_the_bound(self):
        one = Yard(["a", "b", "c"], [("x", 1)], most=20, lean=0)
        back = ("x", None, None, "right")
        log = [("x", "a", None, "left")] * 6 + [back] * 6 + [("x", "b", None, "left")] * 11
        # a is 6 or more, b 11 or more
        self.assertEqual(classes(Net(one, log)), 15 * 10 * 20)
        for fewer in [log[:-1], []]:
            with self.assertRaises(TooMany) as caught:
                classes(Net(one, fewer))
            self.assertEqual(caught.exception.bound, 3000)


class Refusals(unittest.TestCase):
    def refused(self, error, call, field=None, wanted=None):
        with self.subTest(wanted=wanted), self.assertRaises(error) as caught:
            call()
        if field:
            self.assertEqual(getattr(caught.exception, field), wanted)

    def test_steps_below_nought_ahead_of_all(self):
        one, good = falling_yard(), ({"a": 1, "b": 1}, {"x": 0, "y": 0, "z": 0})
        for call in [lambda: rests(one, good, ("x", "a", "b")), lambda: rests(one, None, None),
                     lambda: rested(one, good, []), lambda: rested(one, None, None),
                     lambda: alike(one, good, good), lambda: alike(one, None, None),
                     lambda: parting(one, good, good), lambda: parting(one, None, None, log=None),
                     lambda: parting(one, good, good, log=[("x", "a", "a")]), lambda: classes(Net(one, [])),
                     lambda: classes(Net(one, [("x", None, None, "left")] * 3)),
                     lambda: classes(Net(Yard(list("abcdefgh"), one.beams()), []))]:
            self.refused(NoStep, call, "beam", "y")
        self.refused(NoStep, lambda: classes(Net(Yard(["a"], [("z", -1)]), [])), "beam", "z")

    def test_no_world_of_anything(self):
        one, good = rising_yards()[2], ({"a": 1, "b": 1}, {"x": 0})
        for thing in [*anything(), ({"a": 1}, {"x": 0}), ({"a": 1, "b": 5}, {"x": 0}), ({"a": 1, "b": 1}, {"x": 2}),
                      [{"a": 1, "b": 1}, {"x": 0}], ({"a": True, "b": 1}, {"x": 0})]:
            for call in [lambda: rests(one, thing, ("x", "a", "b")), lambda: rests(one, thing, None),
                         lambda: rested(one, thing, []), lambda: rested(one, thing, [None]),
                         lambda: alike(one, thing, good), lambda: alike(one, good, thing),
                         lambda: parting(one, thing, good), lambda: parting(one, good, thing),
                         lambda: parting(one, thing, good, log=None), lambda: parting(one, good, thing, log=[None])]:
                self.refused(NoAsk, call)

    def test_no_weighing_of_anything(self):
        one, good = rising_yards()[2], ({"a": 1, "b": 1}, {"x": 0})
        for thing in [*anything(), ("x", "a", "a"), ["x", "a", "b"], ("x", "a", "b", "left"), ("y", "a", "b")]:
            if thing == ("x", "a", None):
                continue
            self.refused(NoRow, lambda: rests(one, good, thing), "at", 0)
            self.refused(NoRow, lambda: rested(one, good, [("x", "a", "b"), thing, None]), "at", 1)
            if type(thing) not in (list, tuple):
                self.refused(NoRow, lambda: rested(one, good, thing), "at", 0)

    def test_no_log_of_anything(self):
        one, good = rising_yards()[2], ({"a": 1, "b": 1}, {"x": 0})
        for thing in [*anything(), [("x", "a", "b")], [("x", "a", "a", "even")], ("x", "a", "b", "even")]:
            if thing not in ([], ()):
                self.refused(NoRow, lambda: parting(one, good, good, log=thing), "at", 0)
        self.refused(NoRow, lambda: parting(one, good, good, log=[("x", "a", "b", "left"), None]), "at", 1)

    def test_a_log_that_one_does_not_give(self):
        one = rising_yards()[2]
        world, other = ({"a": 1, "b": 1}, {"x": 0}), ({"a": 2, "b": 1}, {"x": 0})
        for log in [[("x", "a", "b", "left")], [("x", "a", "b", "even")], [("x", "a", "b", "right")]]:
            self.refused(NoAsk, lambda: parting(one, world, other, log=log))
            self.refused(NoAsk, lambda: parting(one, other, world, log=log))
            self.refused(NoAsk, lambda: parting(one, world, world, log=[("x", None, None, "left")]))

    def test_the_log_by_name_alone(self):
        one, good = rising_yards()[2], ({"a": 1, "b": 1}, {"x": 0})
        self.assertRaises(TypeError, parting, one, good, good, [])


if __name__ == "__main__":
    unittest.main()
