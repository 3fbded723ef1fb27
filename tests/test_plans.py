"""Point 91: plans of the least depth, and foils."""

import copy
import random
import unittest

import brute
from samples import anything, falling_yard, gap_logs, otherwise, some_log, tiny_yards, torn_log, two_beams
from wearybeams.errors import NoAsk, NoWorld
from wearybeams.nets import Net
from wearybeams.plans import is_foil, is_plan, plan
from wearybeams.torn import is_tear
from wearybeams.yards import Yard


def cases(seed, many):
    """(yard, log, its worlds, ask, most) of small yards: so many of each."""
    chance = random.Random(seed)
    yards = [*tiny_yards(), falling_yard(), Yard(["a", "b", "c"], [("x", 2)], most=3, lean=1),
             Yard(["a"], [("x", 2)], most=6, lean=2)]
    told = []
    for one in yards:
        for _ in range(many):
            log = some_log(one, chance, chance.choice([0, 1, 2, 4]))
            deepest = 1 if len(brute.weighings(one)) > 20 else 2 if len(brute.weighings(one)) > 7 else 3
            told.append((one, log, brute.worlds(one, log), chance.choice(brute.asks(one)),
                         chance.choice(range(deepest + 1))))
    return told


def least_deep(one, log, right, ask, most):
    """The depth of a plan that is as little deep as can be, at most so deep; None without."""
    shift = brute.shifts(one, log)
    return next((deep for deep in range(most + 1) if brute.can_be_told(one, right, shift, ask, deep)), None)


def told_here():
    """Weights to 3 by a beam of step 1 that does not lean: (yard, net)."""
    one = Yard(["a"], [("x", 1)], most=3, lean=0)
    return one, Net(one, [])


class Plans(unittest.TestCase):
    def test_the_least_depth(self):
        seen = set()
        for one, log, right, ask, most in cases(120, 8):
            net = Net(one, log)
            told = plan(net, ask, most)
            wanted = least_deep(one, log, right, ask, most)
            self.assertEqual(type(told), tuple)
            if wanted is None:
                self.assertEqual(told[0], "foil")
                self.assertTrue(brute.is_foil(one, log, ask, most, told[1]))
                self.assertIs(is_foil(net, ask, most, told[1]), True)
                # never both: what is a foil is no plan
                self.assertIs(is_plan(net, ask, told[1]), False)
            else:
                self.assertEqual((told[0], brute.depth(told[1])), ("plan", wanted))
                self.assertTrue(brute.is_plan(one, right, brute.shifts(one, log), ask, told[1]))
                self.assertIs(is_plan(net, ask, told[1]), True)
                self.assertIs(is_foil(net, ask, most, told[1]), False)
            self.assertEqual(plan(net=Net(one, tuple(log)), ask=ask, most=most), told)
            seen.add((told[0], wanted if told[0] == "plan" else most, ask[0]))
        for wanted in [("plan", 0), ("plan", 1), ("plan", 2), ("foil", 0), ("foil", 1), ("foil", 2)]:
            self.assertIn(wanted, {kind[:2] for kind in seen})
        self.assertEqual({kind[2] for kind in seen if kind[1]}, {"heavier", "weight", "lean"})

    def test_by_hand(self):
        _, net = told_here()
        low, high, most = [({"a": weight}, {"x": 0}) for weight in (1, 2, 3)]
        self.assertEqual(plan(net, ("weight", "a"), 0), ("foil", (low, high)))
        # the first word is left whatever a weighs, behind it 1 is even, behind two of them 2 is
        self.assertEqual(plan(net, ("weight", "a"), 1)[0], "foil")
        self.assertEqual(list(plan(net, ("weight", "a"), 1)[1]),
                         [("x", None, None), ("x", None, "a"), ("x", "a", None)])
        self.assertEqual(plan(net, ("weight", "a"), 2)[0], "foil")
        told = plan(net, ("weight", "a"), 3)
        self.assertEqual((told[0], brute.depth(told[1])), ("plan", 3))
        self.assertEqual(plan(net, ("heavier", None, "a"), 3), ("plan", None))
        self.assertEqual(plan(net, ("lean", "x"), 0), ("plan", None))
        behind = Net(net.yard(), [("x", "a", None, "left")] * 2)
        self.assertIn(plan(behind, ("weight", "a"), 3), [
            ("plan", (("x", None, "a"), {"even": None, "right": None})),
            ("plan", (("x", "a", None), {"left": None, "even": None}))])
        self.assertEqual(plan(behind, ("weight", "a"), 0), ("foil", (high, most)))

    def test_a_sure_word_may_be_part_of_a_plan(self):
        one = Yard(["a"], [("x", 2)], most=4, lean=0)
        told = plan(Net(one, [("x", "a", None, "left"), ("x", None, None, "right")]), ("weight", "a"), 3)
        # left is sure at first, but then 1 is told from 2, and both from 3 and 4
        self.assertEqual((told[0], brute.depth(told[1]), len(told[1][1])), ("plan", 3, 1))

    def test_gaps(self):
        for one, log in gap_logs():
            right = brute.worlds(one, log)
            for ask in [("heavier", "a", "c"), ("lean", "x"), ("weight", "b")]:
                told = plan(Net(one, log), ask, 1)
                wanted = least_deep(one, log, right, ask, 1)
                self.assertEqual((told[0], brute.depth(told[1]) if told[0] == "plan" else None),
                                 ("foil" if wanted is None else "plan", wanted))
                self.assertIs(is_plan(Net(one, log), ask, None), wanted == 0)

    def test_as_great_as_is_promised(self):
        for one, most in [(Yard(list("abc"), [("x", 1)], most=5, lean=2), 3),
                          (Yard(list("abc"), [("x", 2)], most=8, lean=0), 3),
                          (Yard(list("abc"), [("x", 1), ("y", -3)], most=4, lean=1), 2)]:
            net = Net(one, [])
            for ask in [("heavier", "a", "b"), ("weight", "c"), ("lean", "x")]:
                kind, paper = plan(net, ask, most)
                if kind == "foil":
                    self.assertIs(is_foil(net, ask, most, paper), True)
                else:
                    self.assertIs(is_plan(net, ask, paper), True)
                    deep = brute.depth(paper)
                    self.assertEqual(plan(net, ask, max(0, deep - 1))[0], "foil" if deep > 0 else "plan")

    def test_the_askers_own(self):
        _, net = told_here()
        for most in [0, 1, 2, 3]:
            told = plan(net, ("weight", "a"), most)
            kept = copy.deepcopy(told)
            self.empty(told)
            self.assertEqual(plan(net, ("weight", "a"), most), kept)

    def empty(self, thing):
        """Empties each dict in a thing."""
        for part in thing.values() if type(thing) is dict else thing if type(thing) is tuple else []:
            self.empty(part)
        if type(thing) is dict:
            thing.clear()


class IsPlan(unittest.TestCase):
    def test_something_otherwise(self):
        chance = random.Random(121)
        seen = []
        for one, log, right, ask, most in cases(122, 6):
            kind, paper = plan(Net(one, log), ask, most)
            if kind == "plan":
                things = otherwise(paper)
                for thing in [None, *chance.sample(things, min(40, len(things)))]:
                    wanted = brute.is_plan(one, right, brute.shifts(one, log), ask, thing)
                    self.assertIs(is_plan(Net(one, log), ask, thing), wanted, thing)
                    seen.append((wanted, paper is None))
        self.assertEqual(set(seen), {(True, True), (True, False), (False, True), (False, False)})

    def test_deeper_than_need_be(self):
        one, net = told_here()
        sure = ("x", None, None)
        good = plan(Net(one, [(*sure, "even")]), ("weight", "a"), 3)[1]
        deep = good
        for _ in range(5):
            deep = (sure, {"even": deep})
        self.assertIs(is_plan(net, ("weight", "a"), deep), True)
        self.assertIs(is_plan(net, ("weight", "a"), (sure, {"even": deep, "left": None})), False)
        self.assertIs(is_plan(net, ("weight", "a"), (sure, {"left": deep})), False)
        # of what is told already None alone is one, within another, too
        self.assertIs(is_plan(net, ("lean", "x"), None), True)
        self.assertIs(is_plan(net, ("lean", "x"), (sure, {"even": None})), False)
        behind = Net(one, [("x", "a", None, "left")] * 2)
        told = ("x", "a", None)
        self.assertIs(is_plan(behind, ("weight", "a"), (told, {"left": None, "even": None})), True)
        self.assertIs(is_plan(behind, ("weight", "a"), (told, {"even": None, "left": None})), False)
        self.assertIs(is_plan(behind, ("weight", "a"), (told, {"left": (sure, {"right": None}), "even": None})), False)
        self.assertIs(is_plan(behind, ("weight", "a"), (told, {"left": None})), False)
        self.assertIs(is_plan(behind, ("weight", "a"), (told, {"left": None, "even": None, "right": None})), False)
        self.assertIs(is_plan(behind, ("weight", "a"), [told, {"left": None, "even": None}]), False)

    def test_of_anything(self):
        _, net = told_here()
        for thing in anything():
            self.assertIs(is_plan(net=net, ask=("weight", "a"), thing=thing), False)
            self.assertIs(is_plan(net, ("lean", "x"), thing), thing is None)
            self.assertIs(is_plan(net, ("weight", "a"), (("x", "a", None), thing)), False)
            self.assertIs(is_plan(net, ("weight", "a"), (thing, {"left": None, "even": None})), False)

    def test_great_yards(self):
        # what is told, and what can come, is known of yards of whatever many worlds
        one = Yard(list("abcdefgh"), [("x", 5), ("y", -4)], most=100, lean=3)
        net = Net(one, [("x", "a", "b", "left")] * 9)
        self.assertIs(is_plan(net, ("heavier", "a", "b"), None), True)
        self.assertIs(is_plan(net, ("heavier", "a", "c"), None), False)
        thing = (("x", "a", "c"), {word: None for word in brute.WORDS})
        self.assertIs(is_plan(net, ("heavier", "a", "c"), thing), False)


class IsFoil(unittest.TestCase):
    def test_something_otherwise(self):
        chance = random.Random(123)
        seen = []
        for one, log, right, ask, most in cases(124, 6):
            most = min(most, 1)
            kind, paper = plan(Net(one, log), ask, most)
            if kind == "foil":
                things = otherwise(paper)
                for thing in [paper, *chance.sample(things, min(40, len(things)))]:
                    for many in range(3):
                        wanted = brute.is_foil(one, log, ask, many, thing)
                        self.assertIs(is_foil(Net(one, log), ask, many, thing), wanted, thing)
                        seen.append((wanted, most, many))
        self.assertLessEqual({(True, 0, 0), (True, 1, 1), (False, 0, 0), (False, 1, 1), (False, 1, 2)}, set(seen))

    def test_by_hand(self):
        one, net = told_here()
        low, high = ({"a": 1}, {"x": 0}), ({"a": 3}, {"x": 0})
        self.assertIs(is_foil(net=net, ask=("weight", "a"), most=0, thing=(low, high)), True)
        for thing in [(low, low), (low,), (low, high, high), [low, high], (low, ({"a": 4}, {"x": 0})), None,
                      {0: low, 1: high}]:
            self.assertIs(is_foil(net, ("weight", "a"), 0, thing), False)
        self.assertIs(is_foil(net, ("lean", "x"), 0, (low, high)), False)
        part = (low, high)
        deep = {("x", None, None): ("even", part), ("x", None, "a"): ("right", part), ("x", "a", None): ("left", part)}
        self.assertIs(is_foil(net, ("weight", "a"), 1, deep), True)
        self.assertIs(is_foil(net, ("weight", "a"), 0, deep), False)
        self.assertIs(is_foil(net, ("weight", "a"), 2, deep), False)
        self.assertIs(is_foil(net, ("weight", "a"), 1, dict(reversed(deep.items()))), False)
        self.assertIs(is_foil(net, ("weight", "a"), 1, {**deep, ("x", None, None): ("left", part)}), False)
        self.assertIs(is_foil(net, ("weight", "a"), 1, {**deep, ("x", None, None): ["even", part]}), False)
        self.assertIs(is_foil(net, ("weight", "a"), 1, {**deep, ("x", "a", "a"): ("even", part)}), False)
        # of the log alone: behind two left words a weighs 2 at least
        self.assertIs(is_foil(Net(one, [("x", "a", None, "left")] * 2), ("weight", "a"), 0, part), False)

    def test_of_anything(self):
        _, net = told_here()
        worlds = [({"a": 1}, {"x": 0}), ({"a": 2}, {"x": 0})]
        for thing in anything():
            for most in range(4):
                self.assertIs(is_foil(net, ("weight", "a"), most, thing), False)
            self.assertIs(is_foil(net, ("weight", "a"), 0, (worlds[0], thing)), False)
            weighings = brute.weighings(net.yard())
            self.assertIs(is_foil(net, ("weight", "a"), 1, {weighing: thing for weighing in weighings}), False)
            if thing not in brute.WORDS:
                part = (thing, tuple(worlds))
                self.assertIs(is_foil(net, ("weight", "a"), 1, {weighing: part for weighing in weighings}), False)


class Refusals(unittest.TestCase):
    def no_asks(self):
        return [*anything(), ("heavier", "a", "a"), ("heavier", None, None), ("heavier", "a"), ("heavier", "a", "z"),
                ("heavier", "x", "a"), ("heavier", "a", "b", None), ["heavier", "a", "b"], ("heavier", ["a"], "b"),
                ("heavier", 0, "a"), ("heavier", False, "a"), ("heavier", "a", {}), ("lighter", "a", "b"),
                ("weight", None), ("weight", "x"), ("weight", ["a"]), ("weight", "a", "b"), ["weight", "a"],
                (["weight"], "a"), ("weight",), ("lean", "a"), ("lean", None), ("lean", "x", "y"),
                ("lean", {"x": 1}), ["lean", "x"]]

    def test_no_ask_of_anything(self):
        for log in [[], torn_log()]:
            net = Net(two_beams(), log)
            for ask in self.no_asks():
                with self.subTest(ask=ask):
                    self.assertRaises(NoAsk, plan, net, ask, 1)
                    self.assertRaises(NoAsk, plan, net, ask, None)
                    self.assertRaises(NoAsk, is_plan, net, ask, None)
                    self.assertRaises(NoAsk, is_foil, net, ask, 1, None)
                    self.assertRaises(NoAsk, is_foil, net, ask, 4, None)

    def test_no_most_of_anything(self):
        for log in [[], torn_log()]:
            net = Net(two_beams(), log)
            for most in [*anything(), 3, 4, -1]:
                if type(most) is not int or not 0 <= most <= 3:
                    with self.subTest(most=most):
                        self.assertRaises(NoAsk, plan, net, ("weight", "a"), most)
                        self.assertRaises(NoAsk, is_foil, net, ("weight", "a"), most, None)

    def test_no_world(self):
        net = Net(two_beams(), torn_log())
        for call in [lambda: plan(net, ("weight", "a"), 3), lambda: plan(net, ("heavier", None, "a"), 0),
                     lambda: is_plan(net, ("weight", "a"), None), lambda: is_foil(net, ("lean", "x"), 0, None)]:
            with self.assertRaises(NoWorld) as caught:
                call()
            self.assertIs(is_tear(two_beams(), torn_log(), caught.exception.rings), True)

    def test_every_ask_is_one(self):
        for one in [two_beams(), falling_yard(), Yard(["x"], [("x", 1)], most=2, lean=0)]:
            for ask in brute.asks(one):
                self.assertIs(is_plan(Net(one, []), ask, ()), False)


if __name__ == "__main__":
    unittest.main()
