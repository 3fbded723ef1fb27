"""Points 30 and 31: what a log lets be by each tuple of first leans."""

import copy
import random
import unittest

import brute
from samples import anything, great_logs, tiny_logs, tiny_yards
from wearybeams.errors import NoAsk, NoPan, NoRow, TooMany
from wearybeams.nets import Net, all_leans
from wearybeams.yards import Yard


def yard():
    return Yard(["a", "b"], [("x", 2), ("y", -1)], most=4, lean=1)


def leans_that_are_none():
    return [*anything(), (), (0,), (0, 0, 0), (0, 2), (-2, 0), (0, True), (False, 0), (0, None), (0, "0"), [0, 0],
            (0, (0,)), ((0, 0),), {0: 0}, "00", (0, [0]), (0, {})]


class ByAllWorlds(unittest.TestCase):
    def each(self):
        """Each tiny net, each tuple of leans, the walker of the log and the worlds with these leans."""
        for one, log in tiny_logs(30, 6):
            right = brute.worlds(one, log)
            net, walker = Net(one, log), brute.Walker(one, log)
            for leans in brute.leans_of(one):
                yield net, leans, walker, [world for world in right if brute.leans_in(one, world) == leans]

    def test_a_ring_or_a_world(self):
        seen = set()
        for net, leans, walker, right in self.each():
            ring = net.ring(leans)
            self.assertIs(ring is None, len(right) > 0)
            if ring is not None:
                self.assertTrue(walker.is_ring(ring))
                self.assertLess(walker.at(ring, leans), 0)
                seen.add(len(ring))
        self.assertGreater(len(seen), 2)

    def test_rings_of_the_fewest_steps(self):
        for net, leans, walker, right in self.each():
            if not right:
                ring = net.ring(leans)
                for pan in brute.pans(net.yard()):
                    for row in walker.least(pan, leans, len(ring) - 1)[1:]:
                        self.assertGreaterEqual(row.get(pan, 0), 0)

    def test_low_and_high(self):
        for net, leans, _, right in self.each():
            low, high = net.low(leans), net.high(leans)
            if not right:
                self.assertEqual((low, high), (None, None))
                continue
            for told, choose in [(low, min), (high, max)]:
                self.assertIn(told, right)
                self.assertEqual(told[0], {thing: choose(world[0][thing] for world in right) for thing in told[0]})
                self.assertEqual(list(told[0]), net.yard().things())
                self.assertEqual(list(told[1].items()), list(zip([name for name, _ in net.yard().beams()], leans)))

    def test_far_and_way(self):
        for net, leans, walker, right in self.each():
            for one in brute.pans(net.yard()):
                for other in brute.pans(net.yard()):
                    far, way = net.far(one, other, leans), net.way(one, other, leans)
                    if not right:
                        self.assertEqual((far, way), (None, None))
                        continue
                    self.assertEqual(far, max(brute.heavier(world, one, other) for world in right))
                    self.assertEqual(walker.walk(one, way), [other])
                    self.assertEqual(walker.at(way, leans), far)
                    fewer = walker.least(one, leans, len(way))[:-1]
                    self.assertTrue(all(row.get(other) != far for row in fewer))

    def test_a_pan_and_itself(self):
        for net, leans, _, right in self.each():
            for pan in brute.pans(net.yard()):
                self.assertEqual(net.far(pan, pan, leans), 0 if right else None)
                self.assertEqual(net.way(pan, pan, leans), () if right else None)

    def test_leans(self):
        for one, log in tiny_logs(31, 12):
            right = brute.worlds(one, log)
            wanted = sorted({brute.leans_in(one, world) for world in right})
            self.assertEqual(Net(one, log).leans(), wanted)

    def test_worlds(self):
        for one, log in tiny_logs(32, 12):
            right = brute.worlds(one, log)
            net = Net(one, log)
            told = net.worlds(3000)
            self.assertEqual(told, right)
            for world in told:
                self.assertEqual(list(world[0]), one.things())
                self.assertEqual(list(world[1]), [name for name, _ in one.beams()])
            if right:
                self.assertEqual(net.worlds(len(right)), right)
            for most in [1, len(right) // 2, len(right) - 1]:
                if 1 <= most < len(right):
                    with self.assertRaises(TooMany) as caught:
                        net.worlds(most)
                    self.assertEqual(caught.exception.bound, most)


class Great(unittest.TestCase):
    def test_rings_worlds_and_ways(self):
        chance = random.Random(33)
        for one, log in great_logs(34, [0, 0, 0, 1, 2, 9]):
            net, walker = Net(one, log), brute.Walker(one, log)
            for leans in chance.sample(brute.leans_of(one), 25):
                ring = net.ring(leans)
                if ring is not None:
                    self.assertTrue(walker.is_ring(ring))
                    self.assertLess(walker.at(ring, leans), 0)
                    self.assertEqual((net.low(leans), net.high(leans), net.far("a", "b", leans)), (None, None, None))
                    continue
                low, high = net.low(leans), net.high(leans)
                for world in [low, high]:
                    self.assertTrue(brute.is_world(one, log, world))
                    self.assertEqual(brute.leans_in(one, world), leans)
                for thing in one.things():
                    for pair, wanted in [((None, thing), high[0][thing]), ((thing, None), -low[0][thing])]:
                        self.assertEqual(net.far(*pair, leans), wanted)
                        self.assertEqual(walker.at(net.way(*pair, leans), leans), wanted)
                        self.assertEqual(walker.walk(pair[0], net.way(*pair, leans)), [pair[1]])

    def test_many_worlds(self):
        net = Net(Yard(list("abcdefgh"), [("x", 1)], most=100), [])
        for most in [1, 2, 3000]:
            with self.assertRaises(TooMany) as caught:
                net.worlds(most)
            self.assertEqual(caught.exception.bound, most)


class AllLeans(unittest.TestCase):
    def test_rising(self):
        self.assertEqual(all_leans(Yard(["a"], [("x", 1)], lean=1)), [(-1,), (0,), (1,)])
        self.assertEqual(all_leans(yard())[:4], [(-1, -1), (-1, 0), (-1, 1), (0, -1)])
        self.assertEqual(all_leans(Yard(["a"], [("x", 1), ("y", 1), ("z", 1)], lean=0)), [(0, 0, 0)])
        for one in tiny_yards():
            self.assertEqual(all_leans(yard=one), brute.leans_of(one))

    def test_how_many(self):
        self.assertEqual(len(all_leans(Yard(["a"], [("x", 1), ("y", 1), ("z", 1)]))), 343)
        self.assertEqual(len(all_leans(Yard(["a"], [("x", 1), ("y", 1)], lean=9))), 361)

    def test_new_each_time(self):
        one = yard()
        told = all_leans(one)
        self.assertEqual([type(told), {type(leans) for leans in told}], [list, {tuple}])
        told.clear()
        self.assertEqual(len(all_leans(one)), 9)


class Refusals(unittest.TestCase):
    def setUp(self):
        self.net = Net(yard(), [("x", "a", "b", "left")])

    def test_odd_logs(self):
        for log, at in [(None, 0), ({}, 0), ("x", 0), ([None], 0), ([("x", "a", "b", "left"), ("x", "a", "b")], 1),
                        (("x", "a", "b", "left"), 0), ([("x", "a", "b", "left")] * 5 + [()], 5)]:
            with self.subTest(log=log), self.assertRaises(NoRow) as caught:
                Net(yard(), log)
            self.assertEqual(caught.exception.at, at)

    def test_leans_of_anything(self):
        for leans in leans_that_are_none():
            with self.subTest(leans=leans):
                for call in [self.net.ring, self.net.low, self.net.high]:
                    self.assertRaises(NoAsk, call, leans)
                self.assertRaises(NoAsk, self.net.far, "a", None, leans)
                self.assertRaises(NoAsk, self.net.way, "a", "a", leans)

    def test_pans_of_anything_ahead_of_the_leans(self):
        for pan in [*anything(), "c", "x"]:
            if pan is None or pan == "a":
                continue
            for call in [self.net.far, self.net.way]:
                for one, other in [(pan, "a"), (None, pan), (pan, "nope")]:
                    for leans in [(0, 0), None]:
                        with self.subTest(pan=pan), self.assertRaises(NoPan) as caught:
                            call(one, other, leans)
                        self.assertEqual(caught.exception.pan, pan)

    def test_most_of_anything(self):
        for most in [*anything(), 0, -1, 3001, True]:
            if type(most) is int and 1 <= most <= 3000:
                continue
            with self.subTest(most=most):
                self.assertRaises(NoAsk, self.net.worlds, most)
                self.assertRaises(NoAsk, Net(yard(), [("x", None, "a", "left")] * 9).worlds, most)

    def test_a_refusal_changes_nothing(self):
        before = self.net.worlds(3000)
        for call in [lambda: self.net.worlds(1), lambda: self.net.low(None), lambda: self.net.far("q", None, ())]:
            self.assertRaises(ValueError, call)
        self.assertEqual(self.net.worlds(3000), before)


class Handed(unittest.TestCase):
    def test_what_was_handed_in_is_told(self):
        log = [("x", "a", "b", "left"), ("y", "b", None, "left")]
        net = Net(yard=yard(), log=tuple(log))
        self.assertEqual((net.yard(), net.log()), (yard(), log))
        self.assertIs(type(net.log()), list)

    def test_by_names(self):
        net = Net(yard(), [])
        self.assertIsNone(net.ring(leans=(0, 0)))
        self.assertEqual(net.low(leans=(0, 0)), ({"a": 1, "b": 1}, {"x": 0, "y": 0}))
        self.assertEqual(net.high(leans=(1, 0)), ({"a": 4, "b": 4}, {"x": 1, "y": 0}))
        self.assertEqual(net.far(one="a", other="b", leans=(0, 0)), 3)
        self.assertEqual(net.way(one="a", other="b", leans=(0, 0)), (("least", "a"), ("most", "b")))
        self.assertRaises(TooMany, net.worlds, most=143)
        self.assertEqual(len(net.worlds(most=144)), 144)

    def test_a_torn_log(self):
        net = Net(yard(), [("x", None, None, "left"), ("x", None, None, "left")])
        self.assertEqual((net.leans(), net.worlds(1)), ([], []))

    def test_changing_the_log_later_changes_nothing(self):
        log = [("x", "a", "b", "left")]
        net = Net(yard(), log)
        log.append(("x", "a", "b", "right"))
        self.assertEqual(net.log(), [("x", "a", "b", "left")])
        self.assertEqual(net.worlds(3000), brute.worlds(yard(), [("x", "a", "b", "left")]))

    def test_what_is_told_is_the_askers_own(self):
        net = Net(yard(), [("x", "a", "b", "left")])
        for ask in [net.log, net.leans, lambda: net.worlds(3000), lambda: list(net.low((0, 0))),
                    lambda: list(net.high((0, 0)))]:
            told = ask()
            kept = copy.deepcopy(told)
            for part in told:
                if type(part) is tuple:
                    for inner in part:
                        if type(inner) is dict:
                            inner.clear()
                if type(part) is dict:
                    part.clear()
            told.clear()
            self.assertEqual(ask(), kept)

    def test_equal_nets_tell_the_same_whatever_was_asked_ahead(self):
        chance = random.Random(35)
        for one, log in tiny_logs(36, 3) + great_logs(37, [0, 1]):
            first, second = Net(one, log), Net(one, list(log))
            tuples = chance.sample(brute.leans_of(one), min(9, len(brute.leans_of(one))))
            pans = brute.pans(one)
            asks = [(name, leans) for name in ["ring", "low", "high"] for leans in tuples]
            asks += [(name, chance.choice(pans), chance.choice(pans), leans)
                     for name in ["far", "way"] for leans in tuples]
            told = [getattr(first, name)(*asked) for name, *asked in asks]
            self.assertEqual([getattr(second, name)(*asked) for name, *asked in asks[::-1]], told[::-1])
            self.assertEqual([getattr(first, name)(*asked) for name, *asked in asks], told)
            self.assertEqual(first.leans(), second.leans())


if __name__ == "__main__":
    unittest.main()
