"""Point 52: sheets."""

import copy
import random
import unittest

import brute
from samples import anything, gap_logs, good_log, great_logs, otherwise, tiny_logs, torn_log, two_beams
from wearybeams.errors import NoPan, NoRow, NoWorld
from wearybeams.nets import Net
from wearybeams.sheets import is_sheet, sheet
from wearybeams.stretches import apart, bar
from wearybeams.torn import is_tear
from wearybeams.yards import Yard


def sheets(logs):
    """(yard, log, one, other, sheet) of all pairs of pans, or of some of great yards, of the logs that are not torn."""
    chance = random.Random(70)
    told = []
    for one, log in logs:
        net = Net(one, log)
        if net.leans():
            pairs = brute.pairs(one)
            for ends in chance.sample(pairs, min(9, len(pairs))):
                told.append((one, log, *ends, sheet(net, *ends)))
    return told


class Told(unittest.TestCase):
    def check(self, one, log, left, heavy, told):
        stretches, spans, bars = told
        self.assertEqual([type(part) for part in told], [tuple] * 3)
        self.assertEqual(list(stretches), apart(Net(one, log), left, heavy))
        self.assertEqual((len(spans), len(bars)), (len(stretches), len(stretches) + 1))
        for some in spans:
            for low, high in some:
                for world in [low, high]:
                    self.assertEqual(list(world[0]), one.things())
                    self.assertEqual(list(world[1]), [name for name, _ in one.beams()])
        for some in bars:
            self.assertLessEqual(len(some), 2 ** len(one.beams()))
        self.assertTrue(brute.Walker(one, log).is_sheet(left, heavy, told))
        self.assertIs(is_sheet(one, log, left, heavy, told), True)

    def test_tiny_yards(self):
        for one, log, left, heavy, told in sheets(tiny_logs(71, 8)):
            self.check(one, log, left, heavy, told)
            right = brute.worlds(one, log)
            self.assertEqual(list(told[0]), brute.stretches(brute.heavier(world, left, heavy) for world in right))

    def test_gaps(self):
        seen = set()
        for case in sheets(gap_logs()):
            self.check(*case)
            seen.add(len(case[4][0]))
        self.assertIn(5, seen)

    def test_great_yards(self):
        for case in sheets(great_logs(72, [0, 0, 0, 1])):
            self.check(*case)

    def test_by_hand(self):
        one = Yard(["a"], [("x", 2)], most=6, lean=0)
        log = [("x", "a", None, "left"), ("x", "a", None, "left")]
        low, high = ({"a": 3}, {"x": 0}), ({"a": 6}, {"x": 0})
        wanted = (((3, 6),), (((low, high),),), ((("back", ((1, "least"),)),), (("way", (("most", "a"),)),)))
        self.assertEqual(sheet(net=Net(one, log), one=None, other="a"), wanted)
        self.assertIs(is_sheet(yard=one, log=tuple(log), one=None, other="a", thing=wanted), True)

    def test_the_askers_own(self):
        net = Net(two_beams(), good_log())
        told = sheet(net, "a", "b")
        kept = copy.deepcopy(told)
        for some in told[1]:
            for span in some:
                for world in span:
                    world[0].clear()
                    world[1].clear()
        self.assertEqual(sheet(net, "a", "b"), kept)


class IsSheet(unittest.TestCase):
    def test_something_otherwise(self):
        chance = random.Random(73)
        for one, log, left, heavy, told in sheets(tiny_logs(74, 2) + gap_logs() + great_logs(75, [0, 1])):
            walker = brute.Walker(one, log)
            things = otherwise(told)
            for thing in chance.sample(things, min(60, len(things))):
                self.assertIs(is_sheet(one, log, left, heavy, thing), walker.is_sheet(left, heavy, thing), thing)

    def test_all_that_can_stand_otherwise_in_one(self):
        one, log = gap_logs()[0]
        told = sheet(Net(one, log), "a", "c")
        walker = brute.Walker(one, log)
        good = 0
        for thing in otherwise(told):
            wanted = walker.is_sheet("a", "c", thing)
            self.assertIs(is_sheet(one, log, "a", "c", thing), wanted, thing)
            good += wanted
        # a span told twice, a world's dict in another order and the like are let by
        self.assertGreater(good, 0)

    def test_other_spans(self):
        one = Yard(["a"], [("x", 1)], most=4, lean=1)
        bars = ((("back", (("least", "a"),)),), (("way", (("most", "a"),)),))

        def world(weight, lean):
            return ({"a": weight}, {"x": lean})

        def told(*spans):
            return (((1, 4),), (tuple(spans),), bars)

        for spans, wanted in [
                ([(world(1, 0), world(4, 0))], True),
                ([(world(1, 1), world(4, 1)), (world(2, 0), world(3, 0))], True),
                ([(world(3, -1), world(4, -1)), (world(1, 1), world(2, 1))], True),
                ([(world(1, 0), world(3, 0)), (world(3, 0), world(4, 0))], True),
                ([(world(at, 0), world(at, 0)) for at in range(1, 5)], True),
                ([(world(1, 0), world(4, 1))], False),
                ([(world(4, 0), world(1, 0))], False),
                ([(world(1, 0), world(2, 0)), (world(4, 0), world(4, 0))], False),
                ([(world(1, 0), world(3, 0))], False),
                ([(world(2, 0), world(4, 0))], False),
                ([(world(1, 0), world(5, 0))], False),
                ([(world(1, 0), world(4, 0)), (world(4, 0), world(1, 0))], False),
                ([(world(1, 2), world(4, 2))], False),
                ([world(1, 0), world(4, 0)], False),
                ([[world(1, 0), world(4, 0)]], False),
                ([], False)]:
            with self.subTest(spans=spans):
                self.assertIs(is_sheet(one, [], None, "a", told(*spans)), wanted)

    def test_stretches_that_are_not_so(self):
        one = Yard(["a"], [("x", 1)], most=2, lean=0)
        worlds = [({"a": weight}, {"x": 0}) for weight in (1, 2)]
        whole, parts = (tuple(worlds),), tuple(((world, world),) for world in worlds)
        first, last = (("back", (("least", "a"),)),), (("way", (("most", "a"),)),)
        self.assertIs(is_sheet(one, [], None, "a", (((1, 2),), (whole,), (first, last))), True)
        for thing in [
                (((1, 1), (2, 2)), parts, (first, (), last)), (((1, 1), (2, 2)), parts, (first, last, last)),
                (((1, 1),), parts[:1], (first, last)), (((2, 2),), parts[1:], (first, last)),
                (((1, 2), (1, 2)), (whole, whole), (first, last, last)), (((2, 1),), (whole,), (first, last)),
                (((0, 2),), (whole,), (first, last)), (((1, 3),), (whole,), (first, last)),
                (((True, 2),), (whole,), (first, last)), (([1, 2],), (whole,), (first, last)),
                ([(1, 2)], (whole,), (first, last)), (((1, 2),), [whole], (first, last)),
                (((1, 2),), (whole,), [first, last]), (((1, 2),), (whole,), (last, first)),
                (((1, 2),), (whole,), (first,)), (((1, 2),), (whole,), (first, last, last)),
                (((1, 2),), (whole, whole), (first, last)), ((), (), (first,)), ((), (), ()),
                (((1, 2),), (whole,)), (((1, 2),), (whole,), (first, last), ())]:
            with self.subTest(thing=thing):
                self.assertIs(is_sheet(one, [], None, "a", thing), False)

    def test_wide_stretches_that_touch(self):
        one = Yard(["a"], [("x", 1)], most=4, lean=0)
        worlds = [({"a": weight}, {"x": 0}) for weight in range(1, 5)]
        low, high = ((worlds[0], worlds[1]),), ((worlds[2], worlds[3]),)
        first, last = (("back", (("least", "a"),)),), (("way", (("most", "a"),)),)
        for middle in [(), first, last]:
            thing = (((1, 2), (3, 4)), (low, high), (first, middle, last))
            self.assertIs(is_sheet(one, [], None, "a", thing), False)
        self.assertIs(is_sheet(one, [], None, "a", (((1, 4),), ((*low, *high),), (first, last))), True)

    def test_of_another_pair_or_log(self):
        told = sheet(Net(two_beams(), good_log()), "a", "b")
        self.assertIs(is_sheet(two_beams(), good_log(), "a", "b", told), True)
        self.assertIs(is_sheet(two_beams(), good_log(), "b", "a", told), False)
        self.assertIs(is_sheet(two_beams(), good_log(), "a", None, told), False)
        self.assertIs(is_sheet(two_beams(), good_log()[:1], "a", "b", told), False)
        self.assertIs(is_sheet(two_beams(), [*good_log(), ("x", "a", "b", "left")], "a", "b", told), False)

    def test_of_a_torn_log_nothing_is_one(self):
        whole = bar(Net(two_beams(), torn_log()), "a", "b", None, None)
        for thing in [*anything(), ((), (), ()), ((), (), ((),)), ((), (), (whole,)), ((), (), (whole, whole)),
                      sheet(Net(two_beams(), []), "a", "b")]:
            self.assertIs(is_sheet(two_beams(), torn_log(), "a", "b", thing), False)

    def test_of_anything(self):
        stretches, spans, bars = sheet(Net(two_beams(), good_log()), "a", "b")
        for thing in anything():
            with self.subTest(thing=thing):
                for given in [thing, (thing, spans, bars), (stretches, thing, bars), (stretches, spans, thing),
                              ((thing,), spans, bars), (stretches, (thing,), bars), (stretches, ((thing,),), bars),
                              (stretches, (((thing, thing),),), bars), (stretches, spans, (thing, thing)),
                              (stretches, spans, (bars[0], (thing,)))]:
                    self.assertIs(is_sheet(two_beams(), good_log(), "a", "b", given), False)


class Refusals(unittest.TestCase):
    def test_no_pan_of_anything(self):
        for log in [good_log(), torn_log()]:
            for pan in anything():
                if pan is None or pan == "a":
                    continue
                for ends in [(pan, "a"), ("a", pan), (pan, "nope")]:
                    for call in [lambda: sheet(Net(two_beams(), log), *ends),
                                 lambda: is_sheet(two_beams(), log, *ends, None)]:
                        with self.subTest(pan=pan), self.assertRaises(NoPan) as caught:
                            call()
                        self.assertEqual(caught.exception.pan, pan)

    def test_no_world(self):
        with self.assertRaises(NoWorld) as caught:
            sheet(Net(two_beams(), torn_log()), "a", "b")
        self.assertIs(is_tear(two_beams(), torn_log(), caught.exception.rings), True)

    def test_odd_logs_ahead_of_the_pans(self):
        for log in [None, {}, [None], [("x", "a", "a", "left")]]:
            with self.subTest(log=log), self.assertRaises(NoRow) as caught:
                is_sheet(two_beams(), log, "q", None, None)
            self.assertEqual(caught.exception.at, 0)


if __name__ == "__main__":
    unittest.main()
