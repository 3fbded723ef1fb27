"""Point 90: who asks, asks partings until all worlds that are left are alike for ever."""

import random
import unittest

import brute
from samples import Beams, anything, falling_yard, rising_logs, rising_yards, some_log
from wearybeams.asking import Asker
from wearybeams.errors import NoDeed, NoStep, NoWorld, TooMany, Torn
from wearybeams.nets import Net
from wearybeams.parting import alike, classes, parting
from wearybeams.torn import is_tear
from wearybeams.yards import Yard


class Partings:
    """What can be under way by what was asked: nothing, or a parting of two worlds, so many words from its end."""

    def __init__(self, yard, log):
        self.yard, self.log = yard, list(log)
        self.right = brute.worlds(yard, log)
        self.lots = brute.lots(yard, self.right)
        self.ways = {None}

    def fresh(self, weighing):
        """The partings that can begin with a weighing."""
        heads = [(at, lot[0]) for at, lot in enumerate(self.lots) if lot[0] in self.right]
        told = set()
        for at, one in heads:
            for to, other in heads:
                many = len(parting(self.yard, one, other, log=self.log)) if at < to else 0
                done = [*[row[:3] for row in self.log], *[weighing] * many]
                if many and brute.words(self.yard, one, done) != brute.words(self.yard, other, done):
                    told.add((at, to, weighing, many))
        return told

    def heard(self, row):
        weighing = row[:3]
        going = {way for way in self.ways if way and way[2] == weighing}
        if None in self.ways:
            going |= self.fresh(weighing)
        self.log.append(row)
        self.right = [world for world in self.right if brute.is_world(self.yard, self.log, world)]
        self.ways = set()
        for at, to, asked, many in going:
            alive = self.lots[at][0] in self.right and self.lots[to][0] in self.right
            self.ways.add((at, to, asked, many - 1) if alive else None)


class Sound(unittest.TestCase):
    def test_of_all_that_can_be(self):
        chance = random.Random(110)
        asked = set()
        for one, log in rising_logs(111, 4):
            right = brute.worlds(one, log)
            lots = brute.lots(one, right)
            for world in chance.sample(right, min(4, len(right))):
                asker, beams = Asker(Net(one, log)), Beams(one, world, log)
                told = asker.sound(beams)
                self.assertEqual(told, beams.came)
                self.assertEqual((type(told), asker.rows(), asker.net().log()), (list, told, [*log, *told]))
                left = brute.worlds(one, [*log, *told])
                self.assertIn(left, [lot for lot in lots if world in lot])
                self.assertEqual(classes(asker.net()), 1)
                # never where all are alike: there is nothing to ask any more
                self.assertEqual(asker.sound(beams), [])
                asked.add(min(len(told), 4))
        self.assertEqual(asked, {0, 1, 2, 3, 4})

    def test_each_weighing_is_of_a_parting(self):
        chance = random.Random(112)
        many = 0
        for one, log in [(one, some_log(one, chance, 2)) for one in rising_yards() for _ in range(2)]:
            right = brute.worlds(one, log)
            if len(right) > 30:
                continue
            partings = Partings(one, log)
            for row in Asker(Net(one, log)).sound(Beams(one, chance.choice(right), log)):
                self.assertGreater(len([lot for lot in partings.lots if lot[0] in partings.right]), 1)
                partings.heard(row)
                self.assertNotEqual(partings.ways, set())
                many += 1
            self.assertIn(None, partings.ways)
        self.assertGreater(many, 15)

    def test_never_where_all_are_alike(self):
        # in these worlds a parting of two others is not asked to its end
        cases = [(Yard(["a", "b"], [("x", 4)], most=5, lean=2), [("x", "b", None, "left"), ("x", "a", None, "right")],
                  ({"a": 5, "b": 3}, {"x": -2})),
                 (Yard(["a", "b"], [("x", 3)], most=5, lean=2), [("x", "a", "b", "right")],
                  ({"a": 1, "b": 5}, {"x": -2})),
                 (Yard(["a", "b"], [("x", 1)], most=5, lean=2),
                  [("x", "b", "a", "right"), ("x", None, "b", "right"), *[("x", None, "a", "right")] * 2],
                  ({"a": 5, "b": 1}, {"x": -1}))]
        for one, log, world in cases:
            beams = Beams(one, world, log)

            def weigh(beam, left, right):
                self.assertGreater(len(brute.lots(one, brute.worlds(one, log + beams.came))), 1)
                return beams(beam, left, right)

            self.assertEqual(Asker(Net(one, log)).sound(weigh), beams.came)
            self.assertEqual(len(brute.lots(one, brute.worlds(one, log + beams.came))), 1)

    def test_by_hand(self):
        one = Yard(["a"], [("x", 2)], most=2, lean=0)
        asked = []

        def weigh(*weighing):
            asked.append(weighing)
            return "even"

        asker = Asker(net=Net(one, [("x", "a", None, "left")]))
        self.assertEqual(asker.sound(weigh=weigh), [("x", "a", None, "even")])
        self.assertEqual(asked, [("x", "a", None)])
        self.assertEqual(asker.net().worlds(9), [({"a": 2}, {"x": 0})])

    def test_great_yards(self):
        chance = random.Random(113)
        for one in [Yard(["a", "b"], [("x", 1)], most=50, lean=0), Yard(["a"], [("x", 3), ("y", 4)], most=50, lean=3),
                    Yard(list("abcdefgh"), [("x", 5), ("y", 2), ("z", 3)], most=2, lean=0)]:
            world = ({thing: chance.randint(1, one.most()) for thing in one.things()},
                     {beam: chance.randint(-one.lean(), one.lean()) for beam, _ in one.beams()})
            asker = Asker(Net(one, []))
            told = asker.sound(Beams(one, world))
            left = asker.net().worlds(3000)
            self.assertIn(world, left)
            self.assertTrue(all(alike(one, world, other) for other in left))
            self.assertEqual(brute.words(one, world, [row[:3] for row in told]), told)

    def test_just_3000_worlds(self):
        back = ("x", None, None, "right")
        log = [("x", "a", None, "left")] * 6 + [back] * 6 + [("x", "b", None, "left")] * 11
        one = Yard(["a", "b", "c"], [("x", 1)], most=20, lean=0)
        world = ({"a": 6, "b": 19, "c": 8}, {"x": 0})
        asker = Asker(Net(one, log))
        asker.sound(Beams(one, world, log))
        self.assertEqual(asker.net().worlds(2), [world])
        fewer = Asker(Net(one, log[:-1]))
        with self.assertRaises(TooMany) as caught:
            fewer.sound(Beams(one, world, log[:-1]))
        self.assertEqual((caught.exception.bound, fewer.rows()), (3000, []))

    def test_the_askers_own(self):
        one = Yard(["a"], [("x", 1)], most=5, lean=0)
        asker = Asker(Net(one, []))
        told = asker.sound(Beams(one, ({"a": 4}, {"x": 0})))
        kept = list(told)
        told.clear()
        asker.rows().clear()
        asker.net().log().clear()
        self.assertEqual((asker.rows(), asker.net().log()), (kept, kept))
        self.assertEqual(asker.net().yard(), one)


class Refusals(unittest.TestCase):
    def yard(self):
        return Yard(["a"], [("x", 2), ("y", 3)], most=9, lean=1)

    def world(self):
        return ({"a": 7}, {"x": 1, "y": 0})

    def test_steps_below_nought(self):
        for log in [[], [("x", None, None, "left")] * 3]:
            with self.assertRaises(NoStep) as caught:
                Asker(Net(falling_yard(), log))
            self.assertEqual(caught.exception.beam, "y")

    def test_no_world(self):
        one, log = self.yard(), [("x", None, "a", "left")] * 3
        asker = Asker(Net(one, log))
        with self.assertRaises(NoWorld) as caught:
            asker.sound(Beams(one, self.world()))
        self.assertIs(is_tear(one, log, caught.exception.rings), True)
        self.assertEqual((asker.rows(), asker.net().log()), ([], log))

    def test_sound_within_sound(self):
        one = self.yard()
        asker, beams = Asker(Net(one, [])), Beams(one, self.world())
        seen = []

        def weigh(beam, left, right):
            seen.append(asker.rows())
            with self.assertRaises(NoDeed):
                asker.sound(weigh)
            # another asker may be asked, and this one may tell
            Asker(Net(one, [])).sound(Beams(one, self.world()))
            self.assertEqual(asker.net().log(), beams.came)
            return beams(beam, left, right)

        self.assertEqual(asker.sound(weigh), beams.came)
        self.assertEqual(seen, [beams.came[:many] for many in range(len(seen))])
        self.assertEqual(classes(asker.net()), 1)

    def test_sound_within_sound_uncaught(self):
        one = self.yard()
        asker = Asker(Net(one, []))
        self.assertRaises(NoDeed, asker.sound, lambda *weighing: asker.sound(None))
        self.assertEqual(asker.rows(), [])
        self.assertEqual(asker.sound(Beams(one, self.world())), asker.rows())

    def test_within_sound_ahead_of_no_world(self):
        asker = Asker(Net(self.yard(), []))
        raised = []

        def weigh(beam, left, right):
            try:
                asker.sound(weigh)
            except Exception as error:
                raised.append(type(error))
            return None

        self.assertRaises(Torn, asker.sound, weigh)
        self.assertEqual(raised, [NoDeed])

    def after(self, many, then):
        """An asker that got so many words, and then what a function tells; with the words' rows."""
        one = self.yard()
        asker, beams = Asker(Net(one, [("y", "a", None, "left")])), Beams(one, self.world(), [("y", "a", None, "left")])

        def weigh(beam, left, right):
            return beams(beam, left, right) if len(beams.came) < many else then(beam, left, right)

        return asker, weigh, beams

    def test_no_word_of_anything(self):
        for thing in anything():
            if thing == "left":
                continue
            asker, weigh, beams = self.after(2, lambda beam, left, right: thing)
            with self.subTest(thing=thing), self.assertRaises(Torn) as caught:
                asker.sound(weigh)
            self.assertEqual(caught.exception.rings, ())
            self.assertEqual(asker.rows(), beams.came)

    def test_words_that_no_world_lets_come(self):
        tears = 0
        for many in range(5):
            for word in brute.WORDS:
                asked = []
                asker, weigh, beams = self.after(many, lambda *weighing: asked.append(weighing) or word)
                try:
                    asker.sound(weigh)
                except Torn as error:
                    *good, bad = [*[(*weighing, word) for weighing in asked]]
                    self.assertEqual(asker.rows(), [*beams.came, *good])
                    log = asker.net().log()
                    self.assertNotEqual(brute.worlds(self.yard(), log), [])
                    self.assertEqual(brute.worlds(self.yard(), [*log, bad]), [])
                    self.assertTrue(brute.Walker(self.yard(), [*log, bad]).is_tear(error.rings))
                    tears += 1
                # sound may be called anew, and the rows that came stay
                kept = asker.rows()
                right = brute.worlds(self.yard(), asker.net().log())
                behind = Beams(self.yard(), right[-1], asker.net().log())
                self.assertEqual(asker.sound(behind), behind.came)
                self.assertEqual(asker.rows(), kept + behind.came)
                self.assertEqual(classes(asker.net()), 1)
        self.assertGreater(tears, 2)

    def test_what_weigh_raises_passes_on(self):
        def broken(beam, left, right):
            raise KeyError("broken")

        for many in range(4):
            asker, weigh, beams = self.after(many, broken)
            self.assertRaises(KeyError, asker.sound, weigh)
            self.assertEqual((asker.rows(), len(beams.came)), (beams.came, many))
            came = asker.sound(beams)
            self.assertEqual(asker.rows(), beams.came)
            self.assertEqual(came, beams.came[many:])


if __name__ == "__main__":
    unittest.main()
