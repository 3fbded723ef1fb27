"""Point 70: ties and levellings, and what of point 2 (d) rests on them."""

import random
import unittest
from fractions import Fraction

import brute
from samples import anything, great_yard, otherwise, some_weighing, tiny_yards
from wearybeams.errors import NoAsk, NoBeam, NoRow
from wearybeams.levels import is_levelling, is_tie, loose, moved, tied
from wearybeams.nets import Net
from wearybeams.stretches import leaned
from wearybeams.worlds import told_by
from wearybeams.yards import Yard


def yard():
    return Yard(["a", "b", "c"], [("x", 2), ("y", 1)], most=6, lean=2)


# a less b and x, b less c and x, a less c and y: once each but the last, undone, come to twice x less y
THREE = [("x", "a", "b"), ("x", "b", "c"), ("y", "a", "c")]
FOUR = [*THREE, ("x", "c", "a")]


def rank(rows):
    """How many of some rows there are at most none of which is made of the others by fractions."""
    rows, told = [[Fraction(number) for number in row] for row in rows], 0
    for place in range(len(rows[0]) if rows else 0):
        found = [row for row in rows if row[place] != 0]
        if found:
            told += 1
            rows = [[one - two * row[place] / found[0][place] for one, two in zip(row, found[0])]
                    for row in rows if row is not found[0]]
    return told


def some_lists(seed, many):
    """Pairs of a yard and a list of weighings."""
    chance = random.Random(seed)
    told = []
    for one in [yard(), *tiny_yards(), *[great_yard(chance) for _ in range(6)]]:
        for _ in range(many):
            length = chance.choice([0, 1, 2, 3, 5, 8, 12, 40])
            told.append((one, [some_weighing(one, chance) for _ in range(length)]))
    return told


class Tied(unittest.TestCase):
    def test_a_tie_or_a_levelling(self):
        seen = []
        for one, weighings in some_lists(70, 12):
            rows = [list(brute.sums(one, weighing).values()) for weighing in weighings]
            for beam, _ in one.beams():
                told = tied(one, weighings, beam)
                alone = list(brute.sums(one, (beam, None, None)).values())
                can = rank([*rows, alone]) == rank(rows)
                self.assertEqual(told[0], "tie" if can else "level")
                if can:
                    self.assertEqual(len(told), 3)
                    self.assertTrue(brute.is_tie(one, weighings, beam, told[1:]))
                    self.assertIs(is_tie(one, weighings, beam, told[1:]), True)
                else:
                    self.assertEqual(len(told), 2)
                    self.assertTrue(brute.is_levelling(one, weighings, beam, told[1]))
                    self.assertIs(is_levelling(one, weighings, beam, told[1]), True)
                self.assertIs(type(told), tuple)
                parts = [told[1], {None: told[2]}] if can else told[1]
                self.assertTrue(all(abs(number) <= 1000 for part in parts for number in part.values()))
                self.assertEqual(tied(yard=one, weighings=tuple(weighings), beam=beam), told)
                seen.append(told[0])
        self.assertGreater(seen.count("tie"), 30)
        self.assertGreater(seen.count("level"), 30)

    def test_by_hand(self):
        self.assertEqual(tied(yard(), [("x", None, None)], "x"), ("tie", {0: 1}, 1))
        self.assertEqual(tied(yard(), [("x", "a", "b"), ("y", "a", "b"), ("x", "b", "a")], "x"),
                         ("tie", {0: 1, 2: 1}, 2))
        self.assertEqual(tied(yard(), [("x", "a", None), ("y", "a", "b"), ("y", "b", None), ("y", None, None)], "x"),
                         ("tie", {0: 1, 1: -1, 2: -1, 3: 2}, 1))

    def test_levellings_by_hand(self):
        kind, (things, beams) = tied(yard(), [], "y")
        self.assertEqual(kind, "level")
        self.assertNotEqual(beams["y"], 0)
        kind, (things, beams) = tied(yard(), THREE, "x")
        self.assertEqual(kind, "level")
        self.assertEqual((things["b"] - things["a"], things["c"] - things["b"], beams["y"]),
                         (beams["x"], beams["x"], 2 * beams["x"]))

    def test_never_both(self):
        for one, weighings in some_lists(71, 4):
            for beam, _ in one.beams():
                told = tied(one, weighings, beam)
                if told[0] == "tie":
                    # what the weighings come to together is nought along a levelling, the lean alone isn't
                    for other, more in some_lists(72, 4):
                        if other == one:
                            level = tied(one, more, beam)
                            if level[0] == "level":
                                self.assertIs(is_levelling(one, weighings, beam, level[1]), False)
                else:
                    for at in range(len(weighings)):
                        self.assertIs(is_tie(one, weighings, beam, ({at: 1}, 1)), False)

    def test_the_askers_own(self):
        told = tied(yard(), [("x", None, None)], "x")
        told[1].clear()
        self.assertEqual(tied(yard(), [("x", None, None)], "x"), ("tie", {0: 1}, 1))
        weighings = list(THREE)
        for part in tied(yard(), weighings, "x")[1]:
            part.clear()
        self.assertIs(is_levelling(yard(), weighings, "x", tied(yard(), weighings, "x")[1]), True)
        self.assertEqual(weighings, THREE)

    def test_many_weighings(self):
        chance = random.Random(73)
        one = great_yard(chance)
        weighings = [some_weighing(one, chance) for _ in range(120)]
        for beam in "xyz":
            self.assertIs(is_tie(one, weighings, beam, tied(one, weighings, beam)[1:]), True)


class IsTie(unittest.TestCase):
    def test_by_hand(self):
        for thing, wanted in [
                (({0: 1, 1: 1, 3: 1}, 3), True), (({0: 2, 1: 2, 3: 2}, 6), True), (({0: 1, 1: 1, 3: 1}, 2), False),
                (({0: -1, 1: -1, 3: -1}, -3), False), (({1: 1, 0: 1, 3: 1}, 3), False), (({0: 1, 1: 1}, 2), False),
                (({0: 1, 1: 1, 2: 0, 3: 1}, 3), False), (({0: True, 1: 1, 3: 1}, 3), False),
                (({False: 1, True: 1, 3: 1}, 3), False), (({0: 1, 1: 1, 3: 1, 4: 1}, 3), False), (({}, 1), False),
                (({0: 1, 1: 1, -1: 1}, 3), False), (({0: 1, 1: 1, 3: 1}, True), False), (({}, 0), False),
                (({0: 1, 1: 1, 3: 1}, "3"), False), ([{0: 1, 1: 1, 3: 1}, 3], False), (({0: 1, 1: 1, 3: 1},), False),
                (({0: 1, 1: 1, 3: 1}, 3, 3), False), (([(0, 1), (1, 1), (3, 1)], 3), False),
                (({"0": 1, 1: 1, 3: 1}, 3), False), (({0: None, 1: 1, 3: 1}, 3), False),
                (({0: 1, 1: 1, None: 1}, 3), False), (({0: 1, 1: 1, (3,): 1}, 3), False),
                (("tie", {0: 1, 1: 1, 3: 1}, 3), False),
                (({0: 10 ** 30, 1: 10 ** 30, 3: 10 ** 30}, 3 * 10 ** 30), True)]:
            with self.subTest(thing=thing):
                self.assertIs(is_tie(yard(), FOUR, "x", thing), wanted)
        self.assertIs(is_tie(yard=yard(), weighings=tuple(FOUR), beam="y", thing=({0: 1, 1: 1, 3: 1}, 3)), False)
        self.assertIs(is_tie(yard(), FOUR, "y", ({2: 1, 3: 1}, 1)), False)

    def test_something_otherwise(self):
        chance = random.Random(74)
        for one, weighings in some_lists(75, 6):
            for beam, _ in one.beams():
                told = tied(one, weighings, beam)
                if told[0] == "tie":
                    more = (told[1] | {len(weighings) - 1: 1}, told[2])
                    things = [*otherwise(told[1:]), more, (told[1], -told[2]), (told[1], 2 * told[2])]
                    for thing in chance.sample(things, min(30, len(things))):
                        self.assertIs(is_tie(one, weighings, beam, thing), brute.is_tie(one, weighings, beam, thing))

    def test_of_anything(self):
        for thing in anything():
            with self.subTest(thing=thing):
                for given in [thing, (thing, 3), ({0: 1, 1: 1, 3: thing}, 3)]:
                    wanted = type(thing) is int and thing == 1 and given != thing and given != (thing, 3)
                    self.assertIs(is_tie(yard(), FOUR, "x", given), wanted)
                self.assertIs(is_tie(yard(), [("x", None, None)], "x", ({0: 2}, thing)),
                              type(thing) is int and thing == 2)


class IsLevelling(unittest.TestCase):
    def right(self):
        return ({"a": 0, "b": 1, "c": 2}, {"x": 1, "y": 2})

    def test_by_hand(self):
        self.assertIs(is_levelling(yard(), THREE, "x", self.right()), True)
        self.assertIs(is_levelling(yard=yard(), weighings=tuple(THREE), beam="y", thing=self.right()), True)
        for thing, wanted in [
                (({"a": 5, "b": 6, "c": 7}, {"x": 1, "y": 2}), True),
                (({"a": 0, "b": -10 ** 30, "c": -2 * 10 ** 30}, {"x": -10 ** 30, "y": -2 * 10 ** 30}), True),
                (({"a": 3, "b": 3, "c": 3}, {"x": 0, "y": 0}), False),
                (({"a": 0, "b": 1, "c": 3}, {"x": 1, "y": 2}), False),
                (({"a": 0, "b": 1, "c": 2}, {"x": 1, "y": 1}), False),
                (({"a": 0, "c": 2, "b": 1}, {"x": 1, "y": 2}), False),
                (({"a": 0, "b": 1, "c": 2}, {"y": 2, "x": 1}), False),
                (({"a": 0, "b": True, "c": 2}, {"x": 1, "y": 2}), False),
                (({"a": 0, "b": 1, "c": 2}, {"x": True, "y": 2}), False),
                (({"a": False, "b": 1, "c": 2}, {"x": 1, "y": 2}), False),
                (({"a": 0, "b": 1}, {"x": 1, "y": 2}), False),
                (({"a": 0, "b": 1, "c": 2, "d": 0}, {"x": 1, "y": 2}), False),
                (({"a": 0, "b": 1, "c": 2}, {"x": 1, "y": 2, "z": 0}), False),
                (({"a": 0, "b": 1, "c": 2, None: 0}, {"x": 1, "y": 2}), False),
                (({"a": 0, "b": 1, "c": "2"}, {"x": 1, "y": 2}), False),
                ([{"a": 0, "b": 1, "c": 2}, {"x": 1, "y": 2}], False),
                (({"a": 0, "b": 1, "c": 2},), False), (({"x": 1, "y": 2}, {"a": 0, "b": 1, "c": 2}), False),
                (([("a", 0), ("b", 1), ("c", 2)], [("x", 1), ("y", 2)]), False), (("a", "x"), False)]:
            with self.subTest(thing=thing):
                self.assertIs(is_levelling(yard(), THREE, "x", thing), wanted)

    def test_the_beams_own_number_is_not_nought(self):
        thing = ({"a": 0, "b": 0, "c": 0}, {"x": 0, "y": 5})
        self.assertIs(is_levelling(yard(), [("x", "a", "b")], "y", thing), True)
        self.assertIs(is_levelling(yard(), [("x", "a", "b")], "x", thing), False)

    def test_nothings_number_is_nought(self):
        for pans, weight, wanted in [(("a", None), -1, True), ((None, "a"), -1, False), ((None, "a"), 1, True),
                                     ((None, None), 0, False)]:
            thing = ({"a": weight, "b": 0, "c": 0}, {"x": 1, "y": 0})
            self.assertIs(is_levelling(yard(), [("x", *pans)], "x", thing), wanted)

    def test_something_otherwise(self):
        chance = random.Random(76)
        for one, weighings in some_lists(77, 6):
            for beam, _ in one.beams():
                told = tied(one, weighings, beam)
                if told[0] == "level":
                    things = otherwise(told[1])
                    for thing in chance.sample(things, min(30, len(things))):
                        self.assertIs(is_levelling(one, weighings, beam, thing),
                                      brute.is_levelling(one, weighings, beam, thing))

    def test_of_anything(self):
        things, beams = self.right()
        for thing in anything():
            with self.subTest(thing=thing):
                for given in [thing, (thing, beams), (things, thing), ({**things, "b": thing}, beams),
                              (things, {**beams, "x": thing})]:
                    self.assertIs(is_levelling(yard(), THREE, "x", given), given == self.right()
                                  and type(thing) is int)


class Moved(unittest.TestCase):
    def test_by_hand(self):
        level = ({"a": 0, "b": 1, "c": 2}, {"x": 1, "y": 2})
        world = ({"c": 1, "a": 3, "b": 5}, {"y": -2, "x": 0})
        self.assertEqual(moved(yard=yard(), world=world, levelling=level, times=1),
                         ({"a": 3, "b": 6, "c": 3}, {"x": 1, "y": 0}))
        self.assertEqual(moved(yard(), world, level, 0), world)
        for times in [0, 1]:
            told = moved(yard(), world, level, times)
            self.assertEqual([list(part) for part in told], [["a", "b", "c"], ["x", "y"]])
        for times in [2, 3, -1, -2, 10 ** 6, -10 ** 6, 10 ** 39]:
            self.assertIsNone(moved(yard(), world, level, times))
        self.assertEqual(moved(yard(), ({"a": 3, "b": 2, "c": 5}, {"x": 2, "y": 2}), level, -1),
                         ({"a": 3, "b": 1, "c": 3}, {"x": 1, "y": 0}))

    def test_the_words_stay(self):
        chance = random.Random(78)
        moves = 0
        for one, weighings in some_lists(79, 4):
            for beam, _ in one.beams():
                told = tied(one, weighings, beam)
                if told[0] != "level":
                    continue
                for times in [-3, -2, -1, 0, 1, 2, 3]:
                    world = ({thing: chance.randint(1, one.most()) for thing in one.things()},
                             {name: chance.randint(-one.lean(), one.lean()) for name, _ in one.beams()})
                    kept = repr(world)
                    new = moved(one, world, told[1], times)
                    wanted = tuple({name: number + times * level[name] for name, number in part.items()}
                                   for part, level in zip(world, told[1]))
                    self.assertEqual(new, wanted if brute.is_world(one, [], wanted) else None)
                    self.assertEqual(repr(world), kept)
                    if new is not None and times != 0:
                        moves += 1
                        twice = weighings * 2
                        self.assertEqual(brute.words(one, new, twice), brute.words(one, world, twice))
        self.assertGreater(moves, 50)

    def test_of_no_world(self):
        level = ({"a": 0, "b": 1, "c": 2}, {"x": 1, "y": 2})
        for thing in [*anything(), ({"a": 3, "b": 5, "c": 7}, {"x": 0, "y": 0}), ({"a": 1, "b": 1}, {"x": 0, "y": 0})]:
            with self.subTest(thing=thing):
                self.assertRaises(NoAsk, moved, yard(), thing, level, 0)


class Loose(unittest.TestCase):
    def test_by_elimination(self):
        for one, weighings in some_lists(80, 12):
            rows = [list(brute.sums(one, weighing).values()) for weighing in weighings]
            wanted = len(one.things()) + len(one.beams()) - rank(rows)
            self.assertEqual(loose(one, weighings), wanted)
            self.assertEqual(loose(yard=one, weighings=tuple(weighings)), wanted)

    def test_by_hand(self):
        for weighings, wanted in [([], 5), ([("x", None, None)], 4), ([("x", None, None)] * 9, 4), (THREE, 2),
                                  (FOUR, 1), ([*FOUR, ("x", "a", None)], 0), ([*FOUR, ("y", None, "a")], 0)]:
            self.assertEqual(loose(yard(), weighings), wanted)

    def test_nought_is_all_leans_tied(self):
        for one, weighings in some_lists(81, 6):
            if loose(one, weighings) == 0:
                self.assertEqual({tied(one, weighings, beam)[0] for beam, _ in one.beams()}, {"tie"})


class Refusals(unittest.TestCase):
    def calls(self, weighings, beam):
        return [lambda: tied(yard(), weighings, beam), lambda: is_tie(yard(), weighings, beam, None),
                lambda: is_levelling(yard(), weighings, beam, None), lambda: loose(yard(), weighings)]

    def test_odd_lists_ahead_of_the_beam(self):
        good = ("x", "a", "b")
        for weighings, at in [(None, 0), ({}, 0), ("x", 0), (good, 0), ([None], 0), ([good, good, ["x", "a", "b"]], 2),
                              ((good, ("x", "a", "a")), 1), ([good, ("x", "a", "b", "left")], 1)]:
            for beam in ["x", "q", None]:
                for call in self.calls(weighings, beam):
                    with self.subTest(weighings=weighings), self.assertRaises(NoRow) as caught:
                        call()
                    self.assertEqual(caught.exception.at, at)

    def test_no_beam_of_anything(self):
        for beam in [*anything(), "a", "z"]:
            if beam != "x":
                for call in self.calls(THREE, beam)[:3]:
                    with self.subTest(beam=beam), self.assertRaises(NoBeam) as caught:
                        call()
                    self.assertEqual(caught.exception.beam, beam)


class Resting(unittest.TestCase):
    def rested(self, one, world, weighings):
        """The log of the weighings, each done until its word is even, or unlike its own first one."""
        log = []
        for weighing in weighings:
            said = []
            while not said or said[-1] == said[0] and said[-1] != "even":
                done = [row[:3] for row in log]
                log = told_by(one, world, [*done, weighing])
                said.append(log[-1][3])
        return log

    def test_a_tie_tells_a_lean_well(self):
        # point 2 (d): how far the lean is told apart by the weighings of its tie, each done until it rests
        chance = random.Random(82)
        seen = set()
        while len(seen) < 5 or chance.random() < 0.9:
            steps = [chance.randint(1, 5) for _ in range(2)]
            one = Yard(["a", "b", "c"], list(zip("xy", steps)), most=9, lean=3)
            weighings = [some_weighing(one, chance) for _ in range(6)]
            beam = chance.choice("xy")
            told = tied(one, weighings, beam)
            if told[0] == "level":
                continue
            world = ({thing: chance.randint(1, 9) for thing in "abc"}, {name: chance.randint(-3, 3) for name in "xy"})
            stretches = leaned(Net(one, self.rested(one, world, [weighings[at] for at in told[1]])), beam)
            width = stretches[-1][1] - stretches[0][0]
            step = dict(one.beams())
            most = sum(abs(many) * max(step[weighings[at][0]] - 2, 0) for at, many in told[1].items())
            self.assertLessEqual(width * told[2], most)
            self.assertTrue(any(first <= world[1][beam] <= last for first, last in stretches))
            seen.add((width, told[2], len(told[1])))


if __name__ == "__main__":
    unittest.main()
