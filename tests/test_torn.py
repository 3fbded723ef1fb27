"""Point 40: torn logs and their tears, and point 2 (a)."""

import random
import unittest

import brute
from samples import anything, great_logs, otherwise, tiny_logs
from wearybeams.errors import NoRow, NoWorld
from wearybeams.nets import Net
from wearybeams.torn import first_torn, is_tear, some_world, torn
from wearybeams.yards import Yard


def one_beam():
    """Twice the lean has to be 1: two rings tear this, and no single one does."""
    yard = Yard(["a", "b"], [("x", 2)], most=6, lean=1)
    return yard, [("x", "a", "b", "even"), ("x", "b", "a", "left"), ("x", "b", "a", "right")]


def half_leans(seed, tries):
    """Logs that beams would tell if weights and leans could be halves, too: pairs of a yard and such a log."""
    chance = random.Random(seed)
    told = []
    for _ in range(tries):
        steps = [chance.choice([-5, -4, -3, -2, 2, 3, 4, 5]) for _ in range(chance.choice([1, 2, 2, 3]))]
        yard = Yard(list("abc"), list(zip("xyz", steps)), most=6, lean=2)
        world = ({thing: chance.randint(2, 12) / 2 for thing in "abc"},
                 {name: chance.randint(-4, 4) / 2 for name, _ in yard.beams()})
        pans = [(left, right) for left in brute.pans(yard) for right in brute.pans(yard) if not left or left != right]
        weighings = [(chance.choice(yard.beams())[0], *chance.choice(pans)) for _ in range(60)]
        told.append((yard, brute.words(yard, world, weighings)))
    return told


def tears(logs):
    """(yard, log, tear) of each of the logs that is torn."""
    told = [(yard, log, torn(Net(yard, log))) for yard, log in logs]
    return [(yard, log, tear) for yard, log, tear in told if tear is not None]


class ByAllWorlds(unittest.TestCase):
    def test_torn_just_where_no_world_gives_the_log(self):
        seen = []
        for yard, log in tiny_logs(40, 15):
            tear, right = torn(Net(yard, log)), brute.worlds(yard, log)
            self.assertIs(tear is None, len(right) > 0)
            seen.append(tear is None)
            if tear is not None:
                self.assertTrue(brute.Walker(yard, log).is_tear(tear))
                self.assertIs(is_tear(yard, log, tear), True)
                self.assertLessEqual(len(tear), 2 ** len(yard.beams()))
        self.assertGreater(seen.count(True), 20)
        self.assertGreater(seen.count(False), 20)

    def test_never_both(self):
        for yard, log in tiny_logs(41, 10):
            net = Net(yard, log)
            tear = torn(net)
            if tear is None:
                self.assertTrue(brute.is_world(yard, log, some_world(net)))
            else:
                with self.assertRaises(NoWorld) as caught:
                    some_world(net)
                self.assertEqual(caught.exception.rings, tear)

    def test_some_world(self):
        for yard, log in tiny_logs(42, 15):
            right = brute.worlds(yard, log)
            if right:
                told = some_world(net=Net(yard, log))
                self.assertEqual(told, right[0])
                self.assertEqual(list(told[0]), yard.things())
                self.assertEqual(list(told[1]), [name for name, _ in yard.beams()])

    def test_first_torn(self):
        seen = set()
        for yard, log in tiny_logs(43, 15):
            many = [many for many in range(len(log) + 1) if not brute.worlds(yard, log[:many])]
            wanted = many[0] if many else None
            self.assertEqual(first_torn(yard, log), wanted)
            self.assertEqual(first_torn(yard=yard, log=tuple(log)), wanted)
            seen.add(wanted)
        self.assertGreater(len(seen), 4)


class Many(unittest.TestCase):
    def test_how_many_rings(self):
        seen = set()
        for yard, log, tear in tears(half_leans(44, 150)):
            self.assertTrue(brute.Walker(yard, log).is_tear(tear))
            self.assertIs(is_tear(yard, log, tear), True)
            self.assertLessEqual(len(tear), 2 ** len(yard.beams()))
            seen.add(len(tear))
        self.assertLessEqual({1, 2, 3}, seen)

    def test_great_yards(self):
        seen = []
        for yard, log in great_logs(45, [0, 0, 0, 1, 1, 2, 4, 9, 30]):
            tear = torn(Net(yard, log))
            if tear is None:
                self.assertTrue(brute.is_world(yard, log, some_world(Net(yard, log))))
                self.assertIsNone(first_torn(yard, log))
            else:
                self.assertTrue(brute.Walker(yard, log).is_tear(tear))
                self.assertIs(is_tear(yard, log, tear), True)
                self.assertLessEqual(len(tear), 8)
                many = first_torn(yard, log)
                ahead, whole = Net(yard, log[:many - 1]), Net(yard, log[:many])
                self.assertTrue(brute.is_world(yard, log[:many - 1], some_world(ahead)))
                self.assertTrue(brute.Walker(yard, log[:many]).is_tear(torn(whole)))
            seen.append(tear is None)
        self.assertEqual(set(seen), {True, False})


class ByHand(unittest.TestCase):
    def test_one_ring(self):
        yard = Yard(["a"], [("x", 1)], lean=1)
        log = [("x", None, None, "left")] * 2
        self.assertEqual(torn(net=Net(yard, log)), (((1, "least"),),))
        self.assertEqual(first_torn(yard, log), 2)
        self.assertIs(is_tear(yard, log, (((1, "least"),),)), True)
        self.assertIs(is_tear(yard=yard, log=tuple(log), thing=(((0, "least"),),)), False)

    def test_two_rings(self):
        yard, log = one_beam()
        tear = torn(Net(yard, log))
        self.assertEqual(len(tear), 2)
        self.assertTrue(brute.Walker(yard, log).is_tear(tear))
        for ring in tear:
            self.assertIs(is_tear(yard, log, (ring,)), False)

    def test_no_rows(self):
        yard = Yard(["a", "b"], [("x", 2), ("y", -1)])
        self.assertIsNone(torn(Net(yard, [])))
        self.assertIsNone(first_torn(yard, []))
        self.assertEqual(some_world(Net(yard, [])), ({"a": 1, "b": 1}, {"x": -3, "y": -3}))

    def test_the_first_row_that_tears(self):
        yard = Yard(["a"], [("x", 1)], most=2, lean=0)
        good = [("x", "a", None, "left"), ("x", None, None, "right")]
        self.assertIsNone(first_torn(yard, good))
        self.assertEqual(first_torn(yard, [*good, ("x", None, None, "left"), *good]), 3)
        self.assertEqual(first_torn(yard, [("x", "a", None, "right"), *good]), 1)
        self.assertEqual(first_torn(yard, [*good * 60][:119] + [("x", "a", None, "right")]), 120)

    def test_a_world_told_is_the_askers_own(self):
        net = Net(Yard(["a"], [("x", 1)]), [])
        some_world(net)[0].clear()
        some_world(net)[1]["x"] = 7
        self.assertEqual(some_world(net), ({"a": 1}, {"x": -3}))


class IsTear(unittest.TestCase):
    def test_changed_tears(self):
        chance = random.Random(46)
        found = tears(tiny_logs(47, 6)) + tears(half_leans(48, 30)) + tears(great_logs(49, [3, 9]))
        for yard, log, tear in found:
            walker = brute.Walker(yard, log)
            spare = (("most", yard.things()[0]), ("least", yard.things()[0]))
            for at, ring in enumerate(tear):
                self.assertIs(is_tear(yard, log, tear[:at] + tear[at + 1:]), False)
                self.assertIs(is_tear(yard, log, (*tear, ring)), False)
                begun = tear[:at] + (ring[1:] + ring[:1],) + tear[at + 1:]
                self.assertIs(is_tear(yard, log, begun), True)
                about = tear[:at] + (ring[::-1],) + tear[at + 1:]
                self.assertIs(is_tear(yard, log, about), walker.is_tear(about))
                twice = tear[:at] + (ring + ring,) + tear[at + 1:]
                self.assertIs(is_tear(yard, log, twice), True)
            self.assertIs(is_tear(yard, log, (*tear, spare)), False)
            self.assertIs(is_tear(yard, log, (spare, *tear)), False)
            self.assertIs(is_tear(yard, log, tear[::-1]), True)
            self.assertIs(is_tear(yard, log, list(tear)), False)
            things = otherwise(tear)
            for thing in chance.sample(things, min(40, len(things))):
                self.assertIs(is_tear(yard, log, thing), walker.is_tear(thing), thing)

    def test_many_rings(self):
        # of such leans that each breaks one ring of its own the rings are a tear, however many they are
        yard = Yard(["a"], [("x", 1)], lean=3)
        log = [("x", None, None, "left")] * 9
        self.assertIs(is_tear(yard, log, (((8, "least"),),)), True)
        self.assertIs(is_tear(yard, log, tuple(((at, "least"),) for at in range(9))), False)
        self.assertIs(is_tear(yard, log, (((8, "least"),),) * 500), False)

    def test_of_a_log_that_is_not_torn(self):
        yard = Yard(["a"], [("x", 1)], lean=3)
        for thing in [(), ((),), ((("most", "a"), ("least", "a")),), (((0, "least"),),)]:
            self.assertIs(is_tear(yard, [("x", None, None, "left")], thing), False)

    def test_of_anything(self):
        yard = Yard(["a"], [("x", 1)], lean=1)
        log = [("x", None, None, "left")] * 2
        for thing in anything():
            with self.subTest(thing=thing):
                self.assertIs(is_tear(yard, log, thing), False)
                self.assertIs(is_tear(yard, log, (((1, "least"),), thing)), False)
                self.assertIs(is_tear(yard, log, (thing,)), False)
                self.assertIs(is_tear(yard, log, (((thing, "least"),),)), type(thing) is int and thing == 1)
                self.assertIs(is_tear(yard, log, (((1, thing),),)), False)
                self.assertIs(is_tear(yard, log, (((1, "least"), thing),)), False)

    def test_odd_logs(self):
        yard = Yard(["a"], [("x", 1)])
        for log in [None, {}, "x", [None], [("x", "a", "a", "left")], ("x", "a", None, "left")]:
            for call in [lambda: is_tear(yard, log, ()), lambda: is_tear(yard, log, None),
                         lambda: first_torn(yard, log)]:
                with self.subTest(log=log), self.assertRaises(NoRow) as caught:
                    call()
                self.assertEqual(caught.exception.at, 0)
        with self.assertRaises(NoRow) as caught:
            first_torn(yard, [("x", "a", None, "right")] * 9 + [("x", "b", None, "right")])
        self.assertEqual(caught.exception.at, 9)


class Same(unittest.TestCase):
    def test_equal_nets_tell_the_same(self):
        for yard, log, tear in tears(tiny_logs(50, 4) + half_leans(51, 10)):
            other = Net(yard, tuple(log))
            other.leans()
            self.assertEqual(torn(other), tear)
            self.assertEqual(torn(other), tear)


if __name__ == "__main__":
    unittest.main()
