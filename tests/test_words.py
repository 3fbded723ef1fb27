"""Points 60 and 61: the words that can come, words that are sure to, and beams steered by them."""

import random
import unittest

import brute
from samples import (
    anything, gap_logs, great_logs, some_log, some_weighing, tiny_logs, tiny_yards, torn_log, two_beams)
from wearybeams.errors import NoAsk, NoBeam, NoRow, NoWorld
from wearybeams.nets import Net
from wearybeams.torn import is_tear
from wearybeams.words import FEW, next_words, steered, sure, sure_run
from wearybeams.yards import Yard


def words_of(one, log, right, weighing):
    """The words of a weighing in the worlds of a log."""
    return {brute.words(one, world, [*[row[:3] for row in log], weighing])[-1][3] for world in right}


def sure_logs(seed, many):
    """Tiny yards and gap logs, with logs of 12 and more rows among them, whose worlds are few: (yard, log, worlds)."""
    chance = random.Random(seed)
    told = tiny_logs(seed, many) + gap_logs()
    told += [(one, some_log(one, chance, chance.choice([12, 30]))) for one in tiny_yards() for _ in range(many)]
    told = [(one, log, brute.worlds(one, log)) for one, log in told]
    return [(one, log, right) for one, log, right in told if right]


class NextWords(unittest.TestCase):
    def check(self, one, log, weighing, told):
        self.assertEqual(list(told), ["left", "even", "right"])
        for word, (kind, shown) in told.items():
            behind = [*log, (*weighing, word)]
            if kind == "can":
                self.assertTrue(brute.is_world(one, behind, shown))
                self.assertEqual(list(shown[0]), one.things())
                self.assertEqual(list(shown[1]), [name for name, _ in one.beams()])
            else:
                self.assertEqual(kind, "not")
                self.assertTrue(brute.Walker(one, behind).is_tear(shown))
                self.assertIs(is_tear(one, behind, shown), True)
                self.assertLessEqual(len(shown), 2 ** len(one.beams()))
        self.assertEqual({type(part) for part in told.values()}, {tuple})

    def test_of_tiny_yards(self):
        chance = random.Random(80)
        for one, log, right in sure_logs(81, 3):
            net = Net(one, log)
            for weighing in chance.sample(brute.weighings(one), 3):
                told = next_words(net, weighing)
                self.check(one, log, weighing, told)
                self.assertEqual({word for word, (kind, _) in told.items() if kind == "can"},
                                 words_of(one, log, right, weighing))

    def test_of_great_yards(self):
        chance = random.Random(82)
        for one, log in great_logs(83, [0, 0, 0, 1]):
            net = Net(one, log)
            if net.leans():
                for _ in range(3):
                    weighing = some_weighing(one, chance)
                    self.check(one, log, weighing, next_words(net, weighing))

    def test_behind_a_whole_log(self):
        chance = random.Random(84)
        one = tiny_yards()[2]
        log = some_log(one, chance, 120)
        self.check(one, log, ("x", "a", "b"), next_words(Net(one, log), ("x", "a", "b")))

    def test_by_hand(self):
        one = Yard(["a"], [("x", 1)], most=2, lean=0)

        def told(log):
            """Each word with a world, or with the steps of each ring, wherever it begins."""
            words = next_words(net=Net(one, log), weighing=("x", "a", None))
            return {word: shown if kind == "can" else [set(ring) for ring in shown]
                    for word, (kind, shown) in words.items()}

        self.assertEqual(told([]), {
            "left": ({"a": 1}, {"x": 0}), "even": [{("least", "a"), (0, "most")}],
            "right": [{("least", "a"), (0, "most")}]})
        behind = told([("x", "a", None, "left")])
        self.assertEqual((behind["left"], behind["even"]), (({"a": 2}, {"x": 0}), ({"a": 1}, {"x": 0})))
        # the row of the log says no more of the weight than the yard does
        self.assertIn(behind["right"], [[{(1, "most"), ("least", "a")}], [{(1, "most"), (0, "least")}]])

    def test_the_askers_own(self):
        net = Net(two_beams(), [])
        told = next_words(net, ("x", "a", "b"))
        kept = repr(told)
        told["left"][1][0].clear()
        told.clear()
        self.assertEqual(repr(next_words(net, ("x", "a", "b"))), kept)
        self.assertEqual(net.log(), [])


class Sure(unittest.TestCase):
    def test_of_all_weighings(self):
        seen = set()
        for one, log, right in sure_logs(85, 6):
            net = Net(one, log)
            for weighing in brute.weighings(one):
                words = words_of(one, log, right, weighing)
                wanted = words.pop() if len(words) == 1 else None
                self.assertEqual(sure(net, weighing), wanted)
                seen.add(wanted)
        self.assertEqual(seen, {None, "left", "even", "right"})

    def test_a_sure_word_leaves_all_worlds(self):
        for one, log, right in sure_logs(86, 2):
            net = Net(one, log)
            for weighing in brute.weighings(one):
                word = sure(net=net, weighing=weighing)
                if word is not None:
                    self.assertEqual(brute.worlds(one, [*log, (*weighing, word)]), right)

    def test_left_and_right_but_never_even(self):
        one = Yard(["a", "b", "c"], [("x", 1)], most=5, lean=2)
        net = Net(one, [("x", "a", "b", "even"), ("x", "b", "c", "even"), ("x", "a", None, "left")])
        # c less b is the lean, and both together are even: less 1 they are never nought
        told = next_words(net, ("x", "c", "b"))
        self.assertEqual([kind for kind, _ in told.values()], ["can", "not", "can"])
        self.assertIsNone(sure(net, ("x", "c", "b")))

    def test_of_great_yards(self):
        chance = random.Random(87)
        for one, log in great_logs(88, [0, 0]):
            net = Net(one, log)
            for _ in range(6):
                weighing = some_weighing(one, chance)
                told = [word for word, (kind, _) in next_words(net, weighing).items() if kind == "can"]
                self.assertEqual(sure(net, weighing), told[0] if len(told) == 1 else None)


class SureRun(unittest.TestCase):
    def many(self, one, log, right, weighings):
        """How many words are sure, by the words of all worlds."""
        log = list(log)
        for at, weighing in enumerate(weighings):
            words = words_of(one, log, right, weighing)
            if len(words) > 1:
                return at
            log.append((*weighing, words.pop()))
        return len(weighings)

    def test_of_all_worlds(self):
        chance = random.Random(89)
        seen = set()
        for one, log, right in sure_logs(90, 6):
            net = Net(one, log)
            certain = [weighing for weighing in brute.weighings(one) if len(words_of(one, log, right, weighing)) == 1]
            for _ in range(6):
                lot = chance.choice([brute.weighings(one), certain or brute.weighings(one)])
                weighings = [chance.choice(lot) for _ in range(chance.randint(0, 12))]
                wanted = self.many(one, log, right, weighings)
                self.assertEqual(sure_run(net, weighings), wanted)
                self.assertEqual(sure_run(net=net, weighings=tuple(weighings)), wanted)
                seen.add((min(wanted, 3), wanted == len(weighings)))
        self.assertLessEqual({(0, False), (1, False), (2, False), (3, False), (0, True), (3, True)}, seen)

    def test_each_behind_those_ahead(self):
        one = Yard(["a"], [("x", 1)], most=9, lean=0)
        net = Net(one, [("x", "a", None, "left")] * 3)
        self.assertEqual(sure_run(net, [("x", "a", None)]), 0)
        self.assertEqual(sure_run(net, [("x", None, None)]), 1)
        # each right word brings the lean nearer to nought, where even is sure, until the last word isn't
        self.assertEqual(sure_run(net, [("x", None, None)] * 30), 30)
        self.assertEqual(sure_run(net, [("x", None, None), ("x", "a", None), ("x", "a", None)]), 2)
        self.assertEqual(sure_run(net, [("x", None, "a")] * 9), 6)
        self.assertEqual(sure_run(net, []), 0)


class Steered(unittest.TestCase):
    def shortest(self, one, log, right, beam):
        """From each shift that sure words bring the beam to, within 45 weighings, to the least number of them."""
        told = {brute.shifts(one, log)[beam]: 0}
        rows = {brute.shifts(one, log)[beam]: list(log)}
        for many in range(1, 46):
            for shift in [shift for shift, number in told.items() if number == many - 1]:
                for weighing in brute.weighings(one, beam):
                    words = words_of(one, rows[shift], right, weighing)
                    if len(words) == 1:
                        behind = [*rows[shift], (*weighing, words.pop())]
                        new = brute.shifts(one, behind)[beam]
                        if new not in told:
                            told[new], rows[new] = many, behind
        return told

    def check(self, one, log, beam, shift, told):
        net = Net(one, log)
        self.assertIs(type(told), list)
        self.assertEqual({weighing[0] for weighing in told} - {beam}, set())
        self.assertEqual(sure_run(net, told), len(told))
        behind = [*log, *brute.words(one, net.worlds(3000)[0], [*[row[:3] for row in log], *told])[len(log):]]
        self.assertEqual(brute.shifts(one, behind)[beam], shift)

    def test_of_all_worlds(self):
        seen = set()
        for one, log, right in sure_logs(91, 2):
            net = Net(one, log)
            if len(right) > 40:
                continue
            for beam, _ in one.beams():
                now = brute.shifts(one, log)[beam]
                fewest = self.shortest(one, log, right, beam)
                for shift in [*range(now - 8, now + 9), *fewest]:
                    for most in [0, 1, 2, FEW, 40]:
                        told = steered(net, beam, shift, most=most)
                        if fewest.get(shift, 99) > most:
                            self.assertIsNone(told)
                        else:
                            self.assertEqual(len(told), fewest[shift])
                            self.check(one, log, beam, shift, told)
                            seen.add(min(len(told), 3))
        self.assertEqual(seen, {0, 1, 2, 3})

    def test_by_hand(self):
        one = Yard(["a"], [("x", 1), ("y", -2)], most=30, lean=3)
        log = [("x", "a", None, "left")] * 14
        net = Net(one, log)
        self.assertEqual(FEW, 12)
        self.assertEqual(steered(net=net, beam="x", shift=-14), [])
        self.assertEqual(len(steered(net, "x", -10)), 4)
        # at shift -3 nothing against nothing may be even, but nothing against the thing is right for long
        self.assertEqual(len(steered(net, "x", -2)), 12)
        self.assertIsNone(steered(net, "x", -1))
        self.assertEqual(len(steered(net, "x", -1, most=13)), 13)
        self.assertIsNone(steered(net, "x", -10, most=3))
        self.assertIsNone(steered(net, "x", -15))
        self.assertEqual(steered(net, "x", -14, most=0), [])
        self.assertIsNone(steered(net, "y", 1))
        for shift in [-10 ** 6, 10 ** 6]:
            self.assertIsNone(steered(net, "x", shift, most=40))

    def test_forty(self):
        one = Yard(["a", "b"], [("x", 1), ("y", -1)], most=100, lean=0)
        net = Net(one, [("x", "a", None, "left")] * 60)
        self.assertEqual(len(steered(net, "x", -20, most=40)), 40)
        self.assertIsNone(steered(net, "x", -20, most=39))
        self.assertIsNone(steered(net, "x", -19, most=40))
        # a step below 0: behind each left word the lean is more, and left is surer
        self.assertEqual(len(steered(net, "y", 40, most=40)), 40)
        self.assertEqual(len(steered(net, "y", -40, most=40)), 40)

    def test_most_by_name_alone(self):
        self.assertRaises(TypeError, steered, Net(two_beams(), []), "x", 0, 12)

    def test_great_yards(self):
        for one, log in great_logs(92, [0, 0, 0]):
            net = Net(one, log)
            for beam, step in one.beams():
                now = brute.shifts(one, log)[beam]
                for many in [-2, -1, 1, 2]:
                    told = steered(net, beam, now + many * step)
                    if told is not None:
                        self.assertEqual((len(told), sure_run(net, told)), (abs(many), abs(many)))
                        world = net.low(net.leans()[0])
                        behind = brute.words(one, world, [*[row[:3] for row in log], *told])
                        self.assertEqual(brute.shifts(one, behind)[beam], now + many * step)

    def test_the_askers_own(self):
        net = Net(Yard(["a"], [("x", 1)]), [])
        told = steered(net, "x", 0)
        told.append(None)
        self.assertEqual(steered(net, "x", 0), [])


class Refusals(unittest.TestCase):
    def refused(self, error, field, wanted, call):
        with self.subTest(wanted=wanted), self.assertRaises(error) as caught:
            call()
        if field:
            self.assertEqual(getattr(caught.exception, field), wanted)

    def test_no_weighing_of_anything(self):
        for log in [[], torn_log()]:
            net = Net(two_beams(), log)
            for thing in [*anything(), ("x", "a", "a"), ("x", "a", "c"), ["x", "a", "b"], [("x", "a", "b")],
                          ("x", "a", "b", "left"), ("z", "a", "b")]:
                if thing == ("x", "a", None):
                    continue
                self.refused(NoRow, "at", 0, lambda: next_words(net, thing))
                self.refused(NoRow, "at", 0, lambda: sure(net, thing))
                if thing not in [[], (), [("x", "a", None)], [("x", "a", "b")]]:
                    self.refused(NoRow, "at", 0, lambda: sure_run(net, thing))
                self.refused(NoRow, "at", 2, lambda: sure_run(net, [("x", "a", "b"), ("y", None, "b"), thing, None]))

    def test_no_world(self):
        net = Net(two_beams(), torn_log())
        for call in [lambda: next_words(net, ("x", "a", "b")), lambda: sure(net, ("x", "a", "b")),
                     lambda: sure_run(net, []), lambda: sure_run(net, [("x", "a", "b")]),
                     lambda: steered(net, "x", 0), lambda: steered(net, "x", -2, most=0)]:
            with self.assertRaises(NoWorld) as caught:
                call()
            self.assertIs(is_tear(two_beams(), torn_log(), caught.exception.rings), True)

    def test_steered_by_anything(self):
        for log in [[], torn_log()]:
            net = Net(two_beams(), log)
            for thing in [*anything(), "z", "a"]:
                if thing != "x":
                    self.refused(NoBeam, "beam", thing, lambda: steered(net, thing, 0))
                    self.refused(NoBeam, "beam", thing, lambda: steered(net, thing, None, most=None))
            for thing in [*anything(), 10 ** 6 + 1, -10 ** 6 - 1]:
                if type(thing) is not int or abs(thing) > 10 ** 6:
                    self.refused(NoAsk, None, None, lambda: steered(net, "x", thing))
                    self.refused(NoAsk, None, None, lambda: steered(net, "x", thing, most=41))
            for thing in [*anything(), 41, -1]:
                if type(thing) is not int or not 0 <= thing <= 40:
                    self.refused(NoAsk, None, None, lambda: steered(net, "x", 0, most=thing))


class NeverBoth(unittest.TestCase):
    def test_no_word_is_told_both_to_come_and_not(self):
        for one, log, _ in sure_logs(93, 1):
            net = Net(one, log)
            for weighing in brute.weighings(one)[:5]:
                for word, (kind, _) in next_words(net, weighing).items():
                    behind = [*log, (*weighing, word)]
                    self.assertIs(kind == "can", len(brute.worlds(one, behind)) > 0)


if __name__ == "__main__":
    unittest.main()
