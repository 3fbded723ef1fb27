"""Points 50 and 51: by which numbers pans are apart and beams lean, and what bars the others."""

import random
import unittest

import brute
from samples import anything, gap_logs, good_log, great_logs, otherwise, tiny_logs, torn_log, two_beams
from wearybeams.errors import NoAsk, NoBeam, NoPan, NoRow, NoWorld
from wearybeams.nets import Net
from wearybeams.stretches import (
    apart, apart_by, bar, is_bar, is_lean_bar, joined, lean_bar, leaned, leans_now)
from wearybeams.torn import is_tear
from wearybeams.yards import Yard


def nets_with_worlds(seed, many):
    told = [(one, log, brute.worlds(one, log)) for one, log in tiny_logs(seed, many) + gap_logs()]
    return [(one, log, right) for one, log, right in told if right]


def bounds():
    """Pairs (first, last), None for without end, first at most last."""
    numbers = [None, -7, -3, -2, -1, 0, 1, 2, 3, 8]
    return [(first, last) for first in numbers for last in numbers if None in (first, last) or first <= last]


def within(number, first, last):
    return (first is None or first <= number) and (last is None or number <= last)


class Apart(unittest.TestCase):
    def test_all_pairs_of_pans(self):
        gaps = 0
        for one, log, right in nets_with_worlds(50, 15):
            net = Net(one, log)
            for left, heavy in brute.pairs(one):
                wanted = brute.stretches(brute.heavier(world, left, heavy) for world in right)
                self.assertEqual(apart(net, left, heavy), wanted)
                gaps += len(wanted) > 1
        self.assertGreater(gaps, 0)

    def test_leans(self):
        gaps = 0
        for one, log, right in nets_with_worlds(51, 15):
            net = Net(one, log)
            for beam, _ in one.beams():
                first = brute.stretches(world[1][beam] for world in right)
                shift = brute.shifts(one, log)[beam]
                self.assertEqual(leaned(net, beam), first)
                self.assertEqual(leans_now(net, beam), [(low + shift, high + shift) for low, high in first])
                gaps += len(first) > 1
        self.assertGreater(gaps, 0)

    def test_alike_pans(self):
        for pan in [None, "a", "b"]:
            self.assertEqual(apart(Net(two_beams(), good_log()), pan, pan), [(0, 0)])

    def test_by_hand(self):
        net = Net(Yard(["a"], [("x", 2)], most=6, lean=1), [("x", "a", None, "left"), ("x", "a", None, "left")])
        self.assertEqual(apart(net=net, one=None, other="a"), [(2, 6)])
        self.assertEqual(apart(net, "a", None), [(-6, -2)])
        self.assertEqual(leaned(net=net, beam="x"), [(-1, 1)])
        self.assertEqual(leans_now(net=net, beam="x"), [(-5, -3)])

    def test_gaps_by_hand(self):
        twice, even, turned = [Net(one, log) for one, log in gap_logs()]
        self.assertEqual(apart(twice, "a", "c"), [(-4, -4), (-2, -2), (0, 0), (2, 2), (4, 4)])
        self.assertEqual(apart(twice, "a", "b"), [(-2, 2)])
        self.assertEqual(leaned(even, "x"), [(-2, -2), (0, 0), (2, 2)])
        self.assertEqual(leaned(even, "y"), [(-1, 1)])
        self.assertEqual(leaned(turned, "x"), [(-2, -2)])
        self.assertEqual(leans_now(turned, "x"), [(-2, -2)])

    def test_stretches_of_many_pairs(self):
        chance = random.Random(64)
        for _ in range(300):
            starts = [chance.randint(-15, 15) for _ in range(chance.randint(0, 9))]
            pairs = [(first, first + chance.randint(0, 4)) for first in starts]
            numbers = [number for first, last in pairs for number in range(first, last + 1)]
            self.assertEqual(joined(pairs), brute.stretches(numbers))

    def test_kinds_and_the_askers_own(self):
        net = Net(two_beams(), good_log())
        for ask in [lambda: apart(net, "a", "b"), lambda: leaned(net, "x"), lambda: leans_now(net, "x")]:
            told = ask()
            self.assertEqual([type(told), {type(pair) for pair in told}], [list, {tuple}])
            kept = list(told)
            told.clear()
            self.assertEqual(ask(), kept)


class ApartBy(unittest.TestCase):
    def test_of_each_number(self):
        for one, log in tiny_logs(52, 8):
            right, net = brute.worlds(one, log), Net(one, log)
            for left, heavy in brute.pairs(one):
                for number in range(-one.most() - 1, one.most() + 2):
                    fit = [world for world in right if brute.heavier(world, left, heavy) == number]
                    told = apart_by(net, left, heavy, number)
                    self.assertEqual(told, fit[0] if fit else None)
                    if fit:
                        self.assertEqual(list(told[0]), one.things())
                        self.assertEqual(list(told[1]), [name for name, _ in one.beams()])

    def test_numbers_far_away_and_torn_logs(self):
        for number in [-10 ** 6, 10 ** 6, 10 ** 39, 7, -7]:
            self.assertIsNone(apart_by(net=Net(two_beams(), good_log()), one="a", other="b", number=number))
        for number in range(-7, 8):
            self.assertIsNone(apart_by(Net(two_beams(), torn_log()), None, "a", number))

    def test_the_askers_own(self):
        net = Net(two_beams(), good_log())
        kept = repr(apart_by(net, "a", "b", 0))
        apart_by(net, "a", "b", 0)[0].clear()
        apart_by(net, "a", "b", 0)[1].clear()
        self.assertEqual(repr(apart_by(net, "a", "b", 0)), kept)


class Bars(unittest.TestCase):
    def test_of_all_pairs_of_pans(self):
        kinds = set()
        for one, log in tiny_logs(53, 4) + gap_logs():
            right, net, walker = brute.worlds(one, log), Net(one, log), brute.Walker(one, log)
            for left, heavy in brute.pairs(one):
                numbers = {brute.heavier(world, left, heavy) for world in right}
                for first, last in bounds():
                    told = bar(net, left, heavy, first, last)
                    self.assertIs(told is None, any(within(number, first, last) for number in numbers))
                    if told is not None:
                        self.assertTrue(walker.is_bar(left, heavy, first, last, told))
                        self.assertIs(is_bar(one, log, left, heavy, first, last, told), True)
                        self.assertLessEqual(len(told), 2 ** len(one.beams()))
                        kinds.add(tuple(sorted({kind for kind, _ in told})))
        self.assertLessEqual({("ring",), ("way",), ("back",), ("ring", "way"), ("back", "ring"),
                              ("back", "way")}, kinds)

    def test_of_a_torn_log_a_tear(self):
        told = bar(Net(two_beams(), torn_log()), "a", "b", None, None)
        self.assertEqual({kind for kind, _ in told}, {"ring"})
        self.assertIs(is_tear(two_beams(), torn_log(), tuple(ring for _, ring in told)), True)
        self.assertIsNone(bar(Net(two_beams(), []), "a", "b", None, None))

    def test_by_hand(self):
        net = Net(two_beams(), [])
        self.assertEqual(bar(net=net, one=None, other="a", first=7, last=None), (("way", (("most", "a"),)),))
        self.assertEqual(bar(net, None, "a", None, 0), (("back", (("least", "a"),)),))
        self.assertEqual(bar(net, "a", "a", 1, 1), (("way", ()),))
        self.assertEqual(bar(net, "a", "a", -5, -1), (("back", ()),))
        self.assertIsNone(bar(net, None, "a", None, 1))
        self.assertIsNone(bar(net, None, "a", 6, 6))

    def test_changed_bars(self):
        chance = random.Random(54)
        for one, log in tiny_logs(55, 3) + gap_logs() + great_logs(56, [0, 2]):
            net, walker = Net(one, log), brute.Walker(one, log)
            for _ in range(6):
                left, heavy = chance.choice(brute.pairs(one))
                first, last = chance.choice(bounds() + [(200, None), (None, -200)])
                told = bar(net, left, heavy, first, last)
                if told is None:
                    continue
                ends = (left, heavy, first, last)
                for at, (kind, way) in enumerate(told):
                    self.assertIs(is_bar(one, log, *ends, told[:at] + told[at + 1:]), False)
                    self.assertIs(is_bar(one, log, *ends, (*told, told[at])), False)
                    for other in ["ring", "way", "back", "Ring", "", None]:
                        thing = told[:at] + ((other, way),) + told[at + 1:]
                        self.assertIs(is_bar(one, log, *ends, thing), walker.is_bar(*ends, thing))
                    thing = told[:at] + ((kind, way[::-1]),) + told[at + 1:]
                    self.assertIs(is_bar(one, log, *ends, thing), walker.is_bar(*ends, thing))
                things = otherwise(told)
                for thing in chance.sample(things, min(40, len(things))):
                    self.assertIs(is_bar(one, log, *ends, thing), walker.is_bar(*ends, thing), thing)

    def test_what_bars_nothing_where_there_is_no_end(self):
        log = []
        way, back = ("way", (("most", "a"),)), ("back", (("least", "a"),))
        self.assertIs(is_bar(two_beams(), log, None, "a", 7, None, (way,)), True)
        self.assertIs(is_bar(two_beams(), log, None, "a", 7, None, (way, back)), False)
        self.assertIs(is_bar(two_beams(), log, None, "a", None, 0, (back,)), True)
        self.assertIs(is_bar(two_beams(), log, None, "a", None, 0, (way,)), False)
        self.assertIs(is_bar(two_beams(), log, None, "a", None, None, (way,)), False)
        self.assertIs(is_bar(two_beams(), log, None, "a", 6, None, (way,)), False)
        self.assertIs(is_bar(two_beams(), log, "a", None, 7, None, (way,)), False)
        self.assertIs(is_bar(two_beams(), log, None, "a", None, None, ()), False)

    def test_longer_ways_bar_as_well(self):
        ring = (("least", "a"), ("most", "a"))
        self.assertIs(is_bar(two_beams(), [], None, "a", 20, 20, (("way", (("most", "a"), *ring)),)), True)
        self.assertIs(is_bar(two_beams(), [], None, "a", 11, 11, (("way", (("most", "a"), *ring)),)), False)

    def test_of_anything(self):
        way = (("most", "a"),)
        for thing in anything():
            with self.subTest(thing=thing):
                for given in [thing, (thing,), ((thing, way),), (("way", way), thing), (("way", (thing,)),),
                              (("way", (("most", thing),)),) if thing != "a" else None, [("way", way)]]:
                    self.assertIs(is_bar(two_beams(), [], None, "a", 7, 9, given), False)
        thing = (("way", way),)
        self.assertIs(is_bar(yard=two_beams(), log=(), one=None, other="a", first=7, last=9, thing=thing), True)


class LeanBars(unittest.TestCase):
    def test_of_all_beams(self):
        seen = set()
        for one, log in tiny_logs(57, 8) + gap_logs():
            right, net, walker = brute.worlds(one, log), Net(one, log), brute.Walker(one, log)
            for beam, _ in one.beams():
                for first, last in bounds():
                    told = lean_bar(net, beam, first, last)
                    self.assertIs(told is None, any(within(world[1][beam], first, last) for world in right))
                    if told is not None:
                        self.assertTrue(walker.is_lean_bar(beam, first, last, told))
                        self.assertIs(is_lean_bar(one, log, beam, first, last, told), True)
                        self.assertLessEqual(len(told), 2 ** len(one.beams()))
                        self.assertIs(told == (), not any(within(lean, first, last)
                                                          for lean in range(-one.lean(), one.lean() + 1)))
                        seen.add(len(told))
        self.assertLessEqual({0, 1, 2}, seen)

    def test_no_tuple_has_such_a_lean(self):
        net = Net(two_beams(), good_log())
        for first, last in [(3, None), (None, -3), (3, 9), (-10 ** 6, -3)]:
            self.assertEqual(lean_bar(net=net, beam="x", first=first, last=last), ())
            self.assertIs(is_lean_bar(two_beams(), good_log(), "x", first, last, ()), True)
            ring = (("most", "a"), ("least", "a"))
            self.assertIs(is_lean_bar(two_beams(), good_log(), "x", first, last, (ring,)), False)
            self.assertIs(is_lean_bar(two_beams(), good_log(), "x", first, last, []), False)
        self.assertIs(is_lean_bar(two_beams(), good_log(), "x", 2, None, ()), False)
        self.assertEqual(lean_bar(Net(two_beams(), torn_log()), "x", 3, 3), ())

    def test_changed_bars(self):
        chance = random.Random(58)
        for one, log in tiny_logs(59, 3) + gap_logs() + great_logs(60, [0, 1]):
            net, walker = Net(one, log), brute.Walker(one, log)
            for beam, _ in one.beams():
                for first, last in [(None, -1), (0, 0), (1, None), (-1, 1), (None, None), (9, None)]:
                    told = lean_bar(net, beam, first, last)
                    if told is None:
                        continue
                    ends = (beam, first, last)
                    for at, ring in enumerate(told):
                        self.assertIs(is_lean_bar(one, log, *ends, told[:at] + told[at + 1:]), False)
                        self.assertIs(is_lean_bar(one, log, *ends, (*told, ring)), False)
                        begun = told[:at] + (ring[1:] + ring[:1],) + told[at + 1:]
                        self.assertIs(is_lean_bar(one, log, *ends, begun), True)
                    things = otherwise(told)
                    for thing in chance.sample(things, min(30, len(things))):
                        self.assertIs(is_lean_bar(one, log, *ends, thing), walker.is_lean_bar(*ends, thing), thing)

    def test_of_anything(self):
        log = [("x", None, None, "left")]
        self.assertEqual(lean_bar(Net(two_beams(), log), "x", None, 0), (((0, "least"),),))
        for thing in anything():
            with self.subTest(thing=thing):
                for given in [thing, (thing,), (((0, "least"),), thing), (((0, thing),),), [((0, "least"),)]]:
                    self.assertIs(is_lean_bar(two_beams(), log, "x", None, 0, given), False)
        given = (((0, "least"),),)
        self.assertIs(is_lean_bar(yard=two_beams(), log=tuple(log), beam="x", first=None, last=0, thing=given), True)


class Refusals(unittest.TestCase):
    def refused(self, error, field, wanted, calls):
        for at, call in enumerate(calls):
            with self.subTest(at, wanted=wanted), self.assertRaises(error) as caught:
                call()
            if field:
                self.assertEqual(getattr(caught.exception, field), wanted)

    def test_no_pan_of_anything_ahead_of_all_but_no_row(self):
        for log in [good_log(), torn_log()]:
            net = Net(two_beams(), log)
            for pan in [*anything(), "c", "x"]:
                if pan is None or pan == "a":
                    continue
                for ends in [(pan, "a"), ("a", pan), (None, pan), (pan, "nope")]:
                    self.refused(NoPan, "pan", pan, [
                        lambda: apart(net, *ends), lambda: apart_by(net, *ends, 0), lambda: bar(net, *ends, 2, 1),
                        lambda: bar(net, *ends, 1, 2), lambda: is_bar(two_beams(), log, *ends, 2, 1, ()),
                        lambda: is_bar(two_beams(), log, *ends, None, None, None)])

    def test_no_beam_of_anything_ahead_of_all_but_no_row(self):
        for log in [good_log(), torn_log()]:
            net = Net(two_beams(), log)
            for beam in [*anything(), "a", "z"]:
                if beam == "x":
                    continue
                self.refused(NoBeam, "beam", beam, [
                    lambda: leaned(net, beam), lambda: leans_now(net, beam), lambda: lean_bar(net, beam, 2, 1),
                    lambda: lean_bar(net, beam, None, None), lambda: is_lean_bar(two_beams(), log, beam, 2, 1, ())])

    def test_first_above_last(self):
        for log in [good_log(), torn_log()]:
            net = Net(two_beams(), log)
            for first, last in [(1, 0), (10 ** 6, -10 ** 6), (-3, -4)]:
                self.refused(NoAsk, None, None, [
                    lambda: bar(net, "a", "b", first, last), lambda: lean_bar(net, "x", first, last),
                    lambda: is_bar(two_beams(), log, "a", "a", first, last, ()),
                    lambda: is_lean_bar(two_beams(), log, "y", first, last, ())])

    def test_odd_logs_ahead_of_all_else(self):
        for log in [None, {}, "x", [None], ("x", "a", None, "left")]:
            self.refused(NoRow, "at", 0, [
                lambda: is_bar(two_beams(), log, "q", "q", 2, 1, None),
                lambda: is_bar(two_beams(), log, "a", "b", 1, 2, ()),
                lambda: is_lean_bar(two_beams(), log, "q", 2, 1, None),
                lambda: is_lean_bar(two_beams(), log, "x", 1, 2, ())])

    def test_no_world(self):
        net = Net(two_beams(), torn_log())
        for call in [lambda: apart(net, "a", "b"), lambda: apart(net, "a", "a"), lambda: leaned(net, "x"),
                     lambda: leans_now(net, "y")]:
            with self.assertRaises(NoWorld) as caught:
                call()
            self.assertIs(is_tear(two_beams(), torn_log(), caught.exception.rings), True)


class Great(unittest.TestCase):
    def test_each_number_is_reached_or_barred(self):
        chance = random.Random(61)
        for one, log in great_logs(62, [0, 0, 0, 1, 2]):
            net, walker = Net(one, log), brute.Walker(one, log)
            for _ in range(6):
                ends = chance.choice(brute.pairs(one))
                for number in [0, *chance.sample(range(-100, 101), 8)]:
                    world, told = apart_by(net, *ends, number), bar(net, *ends, number, number)
                    self.assertIs(world is None, told is not None)
                    if world is None:
                        self.assertTrue(walker.is_bar(*ends, number, number, told))
                        self.assertIs(is_bar(one, log, *ends, number, number, told), True)
                        self.assertLessEqual(len(told), 8)
                    else:
                        self.assertTrue(brute.is_world(one, log, world))
                        self.assertEqual(brute.heavier(world, *ends), number)
                        self.assertTrue(any(first <= number <= last for first, last in apart(net, *ends)))

    def test_each_lean_is_had_or_barred(self):
        for one, log in great_logs(63, [0, 0, 1, 2]):
            net, walker = Net(one, log), brute.Walker(one, log)
            for place, (beam, _) in enumerate(one.beams()):
                for lean in range(-one.lean() - 1, one.lean() + 2):
                    leans = [leans for leans in net.leans() if leans[place] == lean]
                    told = lean_bar(net, beam, lean, lean)
                    self.assertIs(told is None, len(leans) > 0)
                    if leans:
                        self.assertTrue(brute.is_world(one, log, net.low(leans[0])))
                        self.assertTrue(any(first <= lean <= last for first, last in leaned(net, beam)))
                    else:
                        self.assertTrue(walker.is_lean_bar(beam, lean, lean, told))


if __name__ == "__main__":
    unittest.main()
