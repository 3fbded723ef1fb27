"""Point 100: books of far beams, and point 2 (g)."""

import copy
import random
import unittest

import brute
from samples import anything, great_yard, slips_of, some_log, some_weighing, tiny_yards, two_beams
from wearybeams.books import Book
from wearybeams.nets import Net
from wearybeams.stretches import apart, leaned
from wearybeams.torn import torn
from wearybeams.yards import Yard


def row_of(slip):
    return (slip[0], *slip[2:])


class Paper:
    """What was heard of a yard's beams, reckoned from all slips each time anew."""

    def __init__(self, yard):
        self.yard, self.heard = yard, []

    def at(self, beam, number):
        return [slip for slip in self.heard if slip[:2] == (beam, number)]

    def standing(self, beam):
        """The least number that lacks, less 1."""
        return next(number for number in range(1, 122) if len(self.at(beam, number)) != 1) - 1

    def log(self):
        return [row_of(self.at(beam, number)[0])
                for beam, _ in self.yard.beams() for number in range(1, self.standing(beam) + 1)]

    def waits(self):
        rows = [slip for slip in self.heard if slip[1] > self.standing(slip[0])]
        return sorted(rows, key=lambda slip: [(part is not None, part) if at in (2, 3) else part
                                              for at, part in enumerate(slip)])

    def lacks(self):
        waiting = {slip[0] for slip in self.waits()}
        return {beam: self.standing(beam) + 1 for beam, _ in self.yard.beams() if beam in waiting}

    def told(self):
        """From each pair of pans and each beam to what is told of them, by all worlds."""
        right, pans = brute.worlds(self.yard, self.log()), brute.pans(self.yard)
        told = {}
        for at, one in enumerate(pans):
            for other in pans[at + 1:]:
                told[one, other] = brute.stretches(brute.heavier(world, one, other) for world in right) or None
        for beam, _ in self.yard.beams():
            told[beam] = brute.stretches(world[1][beam] for world in right) or None
        return told


def some_slips(yard, chance):
    """The slips of a log, twins and slips heard twice among them, in any order."""
    slips = slips_of(some_log(yard, chance, chance.choice([1, 3, 6, 12]), chance.choice([0, 0, 1, 2])))
    for slip in chance.sample(slips, min(len(slips), chance.choice([0, 1, 3]))):
        slips.append(chance.choice([slip, (*slip[:2], *some_weighing(yard, chance)[1:], chance.choice(brute.WORDS))]))
    chance.shuffle(slips)
    return slips


class Hearing(unittest.TestCase):
    def check(self, book, paper):
        self.assertEqual((book.log(), book.waits(), len(book)), (paper.log(), paper.waits(), len(paper.heard)))
        self.assertEqual(list(book.lacks().items()), list(paper.lacks().items()))
        self.assertEqual((book.net().yard(), book.net().log()), (paper.yard, paper.log()))

    def test_in_any_order(self):
        chance = random.Random(130)
        seen, torn_ones = set(), set()
        for yard in tiny_yards() * 4:
            book, paper = Book(yard), Paper(yard)
            ahead = paper.told()
            for slip in some_slips(yard, chance):
                kind = "again" if slip in paper.heard else "twin" if paper.at(*slip[:2]) else "new"
                if kind != "again":
                    paper.heard.append(slip)
                behind = paper.told()
                ripple = {key: (ahead[key], behind[key]) for key in ahead if ahead[key] != behind[key]}
                told = book.hear(slip)
                self.assertEqual((type(told), told), (tuple, (kind, ripple)))
                self.assertEqual(list(told[1]), list(ripple))
                self.check(book, paper)
                seen.add((kind, ripple != {}))
                torn_ones |= {(elder is None, newer is None) for elder, newer in ripple.values()}
                ahead = behind
        self.assertEqual(seen, {("again", False), ("new", False), ("new", True), ("twin", False), ("twin", True)})
        self.assertEqual(torn_ones, {(False, False), (True, False), (False, True)})

    def test_the_order_is_all_one(self):
        chance = random.Random(131)
        for yard in tiny_yards() * 3:
            slips = some_slips(yard, chance)
            told = []
            for _ in range(3):
                chance.shuffle(slips)
                book = Book(yard)
                kinds = [book.hear(slip)[0] for slip in slips]
                told.append((book.log(), book.waits(), list(book.lacks().items()), len(book), sorted(kinds)))
            self.assertEqual(told[0], told[1])
            self.assertEqual(told[0], told[2])

    def test_each_beams_rows_alone_tell(self):
        # rows of unlike beams may be exchanged, so a book tells what the log told, in whatever order it came
        chance = random.Random(132)
        for yard in tiny_yards()[2:3] + [great_yard(chance)]:
            log = some_log(yard, chance, 8)
            book = Book(yard)
            for slip in slips_of(log):
                book.hear(slip)
            self.assertEqual(sorted(book.log(), key=repr), sorted(log, key=repr))
            stands, came = book.net(), Net(yard, log)
            for pair in brute.pairs(yard):
                self.assertEqual(apart(stands, *pair), apart(came, *pair))
            for beam, _ in yard.beams():
                self.assertEqual(leaned(stands, beam), leaned(came, beam))

    def test_great_yards(self):
        chance = random.Random(133)
        yard = great_yard(chance)
        book = Book(yard)
        pans = brute.pans(yard)
        pairs = [(one, other) for at, one in enumerate(pans) for other in pans[at + 1:]]
        behind = book.net()
        for slip in slips_of(some_log(yard, chance, 4)):
            kind, ripple = book.hear(slip)
            ahead, behind = behind, book.net()
            self.assertEqual(kind, "new")
            self.assertEqual(len(behind.log()), len(ahead.log()) + 1)
            wanted = {pair: (apart(ahead, *pair), apart(behind, *pair)) for pair in pairs}
            wanted.update({beam: (leaned(ahead, beam), leaned(behind, beam)) for beam in "xyz"})
            self.assertEqual(list(ripple.items()), [(key, told) for key, told in wanted.items() if told[0] != told[1]])

    def test_by_hand(self):
        book = Book(yard=Yard(["a"], [("y", 2), ("x", 1)], most=4, lean=0))
        self.assertEqual((book.log(), book.waits(), book.lacks(), len(book)), ([], [], {}, 0))
        self.assertEqual(book.hear(slip=("x", 2, "a", None, "left")), ("new", {}))
        self.assertEqual((book.waits(), book.lacks()), ([("x", 2, "a", None, "left")], {"x": 1}))
        self.assertEqual(book.hear(("y", 1, "a", None, "left")), ("new", {}))
        self.assertEqual(book.hear(("x", 2, "a", None, "left")), ("again", {}))
        self.assertEqual(book.hear(("x", 1, "a", None, "left")), ("new", {(None, "a"): ([(1, 4)], [(2, 4)])}))
        self.assertEqual(book.log(), [("y", "a", None, "left"), ("x", "a", None, "left"), ("x", "a", None, "left")])
        self.assertEqual((book.waits(), book.lacks(), len(book)), ([], {}, 3))
        # a twin: number 1 counts as not heard, and so does it when a third one comes
        self.assertEqual(book.hear(("x", 1, "a", None, "even")), ("twin", {(None, "a"): ([(2, 4)], [(1, 4)])}))
        self.assertEqual(book.hear(("x", 1, None, None, "even")), ("twin", {}))
        self.assertEqual(book.hear(("x", 1, "a", None, "even")), ("again", {}))
        self.assertEqual(book.log(), [("y", "a", None, "left")])
        self.assertEqual(book.waits(), [("x", 1, None, None, "even"), ("x", 1, "a", None, "even"),
                                        ("x", 1, "a", None, "left"), ("x", 2, "a", None, "left")])
        self.assertEqual((book.lacks(), len(book)), ({"x": 1}, 5))
        self.assertEqual(book.hear(("y", 2, "a", None, "right")), ("new", {(None, "a"): ([(1, 4)], [(1, 1)])}))

    def test_torn_and_whole_again(self):
        book = Book(Yard(["a"], [("x", 1)], most=4, lean=1))
        none, first, last = (None, "a"), ("x", 1, None, "a", "left"), ("x", 1, "a", None, "left")
        # what a leans by is told by both as long as it is not torn
        self.assertEqual(book.hear(("x", 2, None, "a", "left")), ("new", {}))
        self.assertEqual(book.hear(first), ("new", {none: ([(1, 4)], None), "x": ([(-1, 1)], None)}))
        self.assertIsNotNone(torn(book.net()))
        self.assertEqual(book.hear(("x", 3, None, "a", "left")), ("new", {}))
        self.assertEqual(book.hear(last), ("twin", {none: (None, [(1, 4)]), "x": (None, [(-1, 1)])}))

    def test_as_many_as_can_be(self):
        book = Book(Yard(["a"], [("x", 1)], most=2, lean=0))
        slips = [("x", number, None, None, "even") for number in range(1, 121)]
        for slip in slips[::-1][:-1]:
            self.assertEqual(book.hear(slip), ("new", {}))
        self.assertEqual((len(book.waits()), book.lacks()), (119, {"x": 1}))
        book.hear(slips[0])
        self.assertEqual((len(book.log()), book.waits(), book.lacks()), (120, [], {}))
        book.hear(("x", 120, "a", None, "left"))
        self.assertEqual((len(book.log()), len(book.waits()), book.lacks(), len(book)), (119, 2, {"x": 120}, 121))

    def test_waits_are_rising_by_texts(self):
        book = Book(Yard(["b", "a"], [("y", 1), ("x", 1)], most=4))
        slips = [("x", 2, None, None, "right"), ("x", 2, None, "a", "even"), ("x", 2, "a", None, "even"),
                 ("x", 2, "a", None, "left"), ("x", 2, "a", None, "right"), ("x", 2, "b", None, "even"),
                 ("x", 10, None, None, "even"), ("y", 2, None, None, "even")]
        for slip in slips[::-1]:
            book.hear(slip)
        self.assertEqual(book.waits(), slips)
        # the beams in the yard's order
        self.assertEqual(list(book.lacks().items()), [("y", 1), ("x", 1)])


class NoSlips(unittest.TestCase):
    def test_of_anything(self):
        book = Book(two_beams())
        things = [*anything(), ("x", 1, "a", "b"), ("x", 1, "a", "a", "left"), ("x", 0, "a", "b", "left"),
                  ("x", 121, "a", "b", "left"), ("x", True, "a", "b", "left"), ("x", "1", "a", "b", "left"),
                  ("z", 1, "a", "b", "left"), ("x", 1, "c", "b", "left"), ("x", 1, "a", "b", "up"),
                  ["x", 1, "a", "b", "left"], ("x", -1, "a", "b", "left"), ("x", 1, "a", "b", "left", None),
                  ("x", [1], "a", "b", "left"), ("x", 1, ["a"], "b", "left"), ("x", None, "a", "b", "left"),
                  (1, "x", "a", "b", "left")]
        for thing in things:
            with self.subTest(thing=thing):
                self.assertEqual(book.hear(thing), ("none", {}))
        self.assertEqual((len(book), book.log(), book.waits()), (0, [], []))
        for number in [1, 120]:
            self.assertEqual(book.hear(("x", number, "a", "b", "left"))[0], "new")


class Own(unittest.TestCase):
    def test_what_is_told_is_the_askers_own(self):
        book = Book(two_beams())
        first, second = ("x", 1, "a", "b", "left"), ("x", 2, None, "b", "right")
        told = [book.hear(slip) for slip in [first, second]]
        kept = [copy.deepcopy(part) for part in told]
        for _, ripple in told:
            for elder, newer in ripple.values():
                elder.clear()
                newer.clear()
            ripple.clear()
        again = Book(two_beams())
        self.assertEqual([again.hear(slip) for slip in [first, second]], kept)
        again.hear(second)[1]["x"] = 1
        self.assertEqual(again.hear(second), ("again", {}))
        # what the elder book keeps was not changed with what it told
        third = ("y", 1, "a", None, "left")
        self.assertEqual(book.hear(third), again.hear(third))
        book.log().clear()
        book.waits().append(None)
        book.lacks()["x"] = 3
        book.net().log().clear()
        self.assertEqual((book.log(), book.waits(), book.lacks()), (again.log(), [], {}))
        self.assertEqual(book.net().log(), again.net().log())


if __name__ == "__main__":
    unittest.main()
