"""Point 2, (a) to (h), over the whole program: small yards by all worlds, greater ones by what was told."""

import copy
import random
import unittest

import brute
from samples import (
    Beams, anything, gap_logs, great_logs, lived_in, rising_logs, rising_yards, slips_of, some_log, some_weighing,
    tiny_logs, tiny_yards, torn_log, two_beams)
from wearybeams.asking import Asker
from wearybeams.books import Book
from wearybeams.desk import Desk
from wearybeams.errors import BeamError, NoWorld
from wearybeams.house import House
from wearybeams.judge import again, judged
from wearybeams.levels import is_levelling, moved, tied
from wearybeams.nets import Net
from wearybeams.parting import alike, classes, parting, rested
from wearybeams.plans import plan
from wearybeams.sheets import sheet
from wearybeams.stretches import apart, lean_bar, leaned, leans_now
from wearybeams.texts import log_text, read_log, read_yard, yard_text
from wearybeams.torn import first_torn, some_world, torn
from wearybeams.words import next_words, steered, sure, sure_run
from wearybeams.yards import Yard


def small(seed, many):
    """(yard, log, net, worlds) of small yards."""
    logs = [*tiny_logs(seed, many), *gap_logs()]
    return [(one, log, Net(one, log), brute.worlds(one, log)) for one, log in logs]


def great(seed, wrongs):
    return [(one, log, Net(one, log)) for one, log in great_logs(seed, wrongs)]


def any_world(one, chance):
    return ({thing: chance.randint(1, one.most()) for thing in one.things()},
            {beam: chance.randint(-one.lean(), one.lean()) for beam, _ in one.beams()})


def gaps(stretches):
    """All numbers in no stretch, as pairs (first, last), None for without end."""
    ends = [end for pair in stretches for end in pair]
    return list(zip([None, *[last + 1 for last in ends[1::2]]], [*[first - 1 for first in ends[::2]], None]))


class Logs(unittest.TestCase):
    """(a): a world or a tear of each log, never both, and the first row that tears it."""

    def check(self, one, log, net):
        tear, walker = torn(net), brute.Walker(one, log)
        many = first_torn(one, log)
        if tear is None:
            self.assertTrue(brute.is_world(one, log, some_world(net)))
            self.assertIsNone(many)
            return
        self.assertTrue(walker.is_tear(tear))
        self.assertLessEqual(len(tear), 2 ** len(one.beams()))
        self.assertRaises(NoWorld, some_world, net)
        self.assertIsNone(torn(Net(one, log[:many - 1])))
        self.assertTrue(brute.Walker(one, log[:many]).is_tear(torn(Net(one, log[:many]))))

    def test_small(self):
        for one, log, net, right in small(200, 12):
            self.check(one, log, net)
            self.assertIs(torn(net) is None, right != [])

    def test_great(self):
        for one, log, net in great(201, [0, 0, 1, 3]):
            self.check(one, log, net)


class Numbers(unittest.TestCase):
    """(b): just the numbers that can be, spanned by worlds and barred by rings and ways."""

    def check(self, one, log, net, pairs):
        walker = brute.Walker(one, log)
        for left, heavy in pairs:
            told = sheet(net, left, heavy)
            self.assertEqual(list(told[0]), apart(net, left, heavy))
            self.assertTrue(walker.is_sheet(left, heavy, told))
            self.assertLessEqual(max(len(bar) for bar in told[2]), 2 ** len(one.beams()))
        for beam, _ in one.beams():
            for first, last in gaps(leaned(net, beam)):
                told = lean_bar(net, beam, first, last)
                self.assertTrue(walker.is_lean_bar(beam, first, last, told))
                self.assertLessEqual(len(told), 2 ** len(one.beams()))
            for first, last in leaned(net, beam):
                for number in range(first, last + 1):
                    self.assertIsNone(lean_bar(net, beam, number, number))

    def test_small(self):
        for one, log, net, right in small(202, 4):
            if not right:
                continue
            self.check(one, log, net, brute.pairs(one))
            for left, heavy in brute.pairs(one):
                numbers = [brute.heavier(world, left, heavy) for world in right]
                self.assertEqual(apart(net, left, heavy), brute.stretches(numbers))
            for beam, _ in one.beams():
                shift = brute.shifts(one, log)[beam]
                self.assertEqual(leaned(net, beam), brute.stretches(world[1][beam] for world in right))
                self.assertEqual(leans_now(net, beam), brute.stretches(world[1][beam] + shift for world in right))

    def test_great(self):
        chance = random.Random(203)
        for one, log, net in great(204, [0, 0]):
            self.check(one, log, net, chance.sample(brute.pairs(one), 4))


class Words(unittest.TestCase):
    """(c): which words can come; sure words leave all worlds as they are, and beams are steered by few of them."""

    def check(self, one, log, net, weighing):
        told = next_words(net, weighing)
        for word, (kind, shown) in told.items():
            behind = [*log, (*weighing, word)]
            if kind == "can":
                self.assertTrue(brute.is_world(one, behind, shown))
            else:
                self.assertTrue(brute.Walker(one, behind).is_tear(shown))
        can = [word for word in told if told[word][0] == "can"]
        self.assertEqual(sure(net, weighing), can[0] if len(can) == 1 else None)
        return can

    def test_small(self):
        for one, log, net, right in small(205, 3):
            if not right:
                continue
            for weighing in brute.weighings(one):
                can = self.check(one, log, net, weighing)
                parts = brute.by_words(one, right, weighing, brute.shifts(one, log))
                self.assertEqual(can, list(parts))
                if len(can) == 1:
                    self.assertEqual(brute.worlds(one, [*log, (*weighing, can[0])]), right)

    def test_great(self):
        chance = random.Random(206)
        for one, log, net in great(207, [0, 0]):
            for _ in range(2):
                self.check(one, log, net, some_weighing(one, chance))

    def shifts(self, one, right, shift, most):
        """From each shift of beams to which so many sure words lead to how few they are."""
        told, row = {tuple(shift.items()): 0}, [shift]
        for many in range(1, most + 1):
            behind = []
            for now in row:
                for weighing in brute.weighings(one):
                    parts = list(brute.by_words(one, right, weighing, now))
                    new = brute.moved_by(one, now, weighing[0], parts[0])
                    if len(parts) == 1 and tuple(new.items()) not in told:
                        told[tuple(new.items())] = many
                        behind.append(new)
            row = behind
        return told

    def test_steered(self):
        seen = set()
        for one, log, net, right in small(208, 2):
            if not right or len(one.beams()) > 2:
                continue
            start = brute.shifts(one, log)
            reached = self.shifts(one, right, start, 3)
            for beam, step in one.beams():
                for number in range(start[beam] - 4 * abs(step), start[beam] + 4 * abs(step) + 1):
                    fewest = [many for key, many in reached.items() if dict(key)[beam] == number]
                    told = steered(net, beam, number, most=3)
                    self.assertEqual(None if told is None else len(told), min(fewest) if fewest else None)
                    if told is not None:
                        self.assertEqual(sure_run(net, told), len(told))
                    seen.add(None if told is None else len(told))
        self.assertEqual(seen, {None, 0, 1, 2, 3})


class Leans(unittest.TestCase):
    """(d): a tie, by which resting weighings tell a lean, or a levelling, by which no words change."""

    def test_ties_by_resting(self):
        chance = random.Random(209)
        ties = 0
        for _ in range(120):
            steps = [chance.randint(1, 5) for _ in range(chance.choice([1, 2]))]
            one = Yard(["a", "b", "c"], list(zip("xy", steps)), most=chance.choice([4, 30]), lean=chance.choice([3, 9]))
            weighings = [some_weighing(one, chance) for _ in range(6)]
            beam = chance.choice(one.beams())[0]
            kind, told, *times = tied(one, weighings, beam)
            if kind == "level":
                continue
            ties += 1
            world = any_world(one, chance)
            net = Net(one, rested(one, world, [weighings[at] for at in told]))
            numbers = leaned(net, beam)
            step = dict(one.beams())
            most = sum(abs(many) * max(0, step[weighings[at][0]] - 2) for at, many in told.items())
            self.assertLessEqual((numbers[-1][1] - numbers[0][0]) * times[0], most)
            self.assertTrue(any(first <= world[1][beam] <= last for first, last in numbers))
        self.assertGreater(ties, 30)

    def test_levellings_by_all_worlds(self):
        chance = random.Random(210)
        levels = 0
        for one in tiny_yards() * 4:
            weighings = [some_weighing(one, chance) for _ in range(chance.choice([1, 2, 3]))]
            beam = chance.choice(one.beams())[0]
            kind, told, *times = tied(one, weighings, beam)
            if kind == "tie":
                # no pair of dicts is a levelling beside a tie
                for things in range(-1, 2):
                    thing = ({name: things for name in one.things()}, {name: 1 for name, _ in one.beams()})
                    self.assertIs(is_levelling(one, weighings, beam, thing), False)
                continue
            levels += 1
            for world in brute.all_worlds(one)[::7]:
                for many in [-1, 1]:
                    new = moved(one, world, told, many)
                    if new is not None:
                        self.assertNotEqual(new[1][beam], world[1][beam])
                        self.assertEqual(brute.words(one, new, weighings * 3), brute.words(one, world, weighings * 3))
        self.assertGreater(levels, 5)


class ForEver(unittest.TestCase):
    """(e): worlds alike for ever, or the fewest weighings that part them."""

    def test_small(self):
        chance = random.Random(211)
        for one, log in rising_logs(212, 3):
            right = brute.worlds(one, log)
            for _ in range(25):
                world, other = chance.choice(right), chance.choice(right)
                told = parting(one, world, other, log=log)
                self.assertEqual(None if told is None else len(told), brute.fewest_parting(one, world, other, log))
                self.assertIs(alike(one, world, other), told is None)

    def test_great(self):
        chance = random.Random(213)
        for _ in range(10):
            one = Yard(list("abcdefgh"), [("x", chance.randint(3, 5)), ("y", chance.randint(2, 5))], most=100, lean=3)
            world = any_world(one, chance)
            other = (dict(world[0]), {**world[1], "x": world[1]["x"] + (1 if world[1]["x"] < 3 else -1)})
            told = parting(one, world, other)
            weighings = [some_weighing(one, chance) for _ in range(2000)]
            if told is None:
                self.assertEqual(brute.words(one, world, weighings), brute.words(one, other, weighings))
            else:
                self.assertNotEqual(brute.words(one, world, told), brute.words(one, other, told))
                # no fewer of any one weighing part them
                for weighing in brute.weighings(one):
                    fewer = [weighing] * (len(told) - 1)
                    self.assertEqual(brute.words(one, world, fewer), brute.words(one, other, fewer))


class Asks(unittest.TestCase):
    """(f): who asks, asks until all is alike, and never then; plans tell what they should, and none is less deep."""

    def test_asking(self):
        chance = random.Random(214)
        for one in rising_yards() * 2:
            every = brute.all_worlds(one)
            world = chance.choice(every)
            beams = Beams(one, world)
            left = []

            def weigh(beam, pan, other):
                right = brute.worlds(one, beams.came)
                left.append(len({brute.fewest_parting(one, right[0], other, []) is None for other in right}))
                return beams(beam, pan, other)

            asker = Asker(Net(one, []))
            asker.sound(weigh)
            self.assertEqual(set(left) - {2}, set())
            for other in brute.worlds(one, beams.came):
                self.assertIsNone(brute.fewest_parting(one, world, other, []))
            self.assertEqual(classes(asker.net()), 1)

    def follow(self, one, world, log, thing):
        """The log behind a plan that is followed in a world."""
        while thing is not None:
            weighing, plans = thing
            log = brute.words(one, world, [*[row[:3] for row in log], weighing])
            thing = plans[log[-1][3]]
        return log

    def test_plans(self):
        chance = random.Random(215)
        kinds = set()
        for one, log, net, right in small(216, 3):
            if not right or len(brute.weighings(one)) > 26:
                continue
            ask = chance.choice(brute.asks(one))
            kind, paper = plan(net, ask, 2 if len(brute.weighings(one)) < 10 else 1)
            kinds.add((kind, paper is None))
            if kind == "plan":
                for world in right:
                    left = brute.worlds(one, self.follow(one, world, log, paper))
                    self.assertEqual({brute.comes_to(ask, other) for other in left}, {brute.comes_to(ask, world)})
                deep = brute.depth(paper)
                self.assertFalse(deep > 0 and brute.can_be_told(one, right, brute.shifts(one, log), ask, deep - 1))
            else:
                self.assertTrue(brute.is_foil(one, log, ask, 2 if len(brute.weighings(one)) < 10 else 1, paper))
        self.assertEqual(kinds, {("plan", True), ("plan", False), ("foil", False)})


class Slips(unittest.TestCase):
    """(g): what a book tells hangs on the slips alone, and a slip changes just what its ripple tells."""

    def told(self, net):
        pans = brute.pans(net.yard())
        pairs = [(one, other) for at, one in enumerate(pans) for other in pans[at + 1:]]
        if torn(net) is not None:
            return {key: None for key in [*pairs, *[beam for beam, _ in net.yard().beams()]]}
        return {**{pair: apart(net, *pair) for pair in pairs},
                **{beam: leaned(net, beam) for beam, _ in net.yard().beams()}}

    def test_ripples(self):
        chance = random.Random(217)
        for one in tiny_yards() * 2:
            slips = slips_of(some_log(one, chance, 8, chance.choice([0, 2])))
            slips += [(*slips[0][:2], *some_weighing(one, chance)[1:], "even")]
            books = []
            for _ in range(2):
                chance.shuffle(slips)
                book = Book(one)
                told = self.told(book.net())
                for slip in slips:
                    _, ripple = book.hear(slip)
                    told.update({key: newer for key, (_, newer) in ripple.items()})
                    self.assertEqual(told, self.told(book.net()))
                books.append(book)
            first, second = [[book.log(), book.waits(), book.lacks(), len(book)] for book in books]
            self.assertEqual(first, second)
            self.assertEqual(self.told(books[0].net()), self.told(books[1].net()))


class Kept(unittest.TestCase):
    """(h): what is refused leaves all as it was; records are judged, and texts are read to what was written."""

    def test_refusals(self):
        one = two_beams()
        house, book, desk, asker = House(one), Book(one), Desk(one), Asker(Net(Yard(["a"], [("x", 2)], most=4), []))
        lived_in(house, one, random.Random(218), 6)
        book.hear(("x", 2, "a", "b", "left"))
        desk.say("tell x a b left")
        kept = [house.log(), house.record(), book.log(), book.waits(), len(book), desk.say("rows"), asker.rows()]
        for thing in anything():
            handed = copy.deepcopy(thing)
            for call in [lambda: house.tell(thing, thing, thing, thing), lambda: house.ask(thing),
                         lambda: house.ask(("next", (thing,))), lambda: house.ask(("tied", thing, thing)),
                         lambda: house.ask(("apart", thing, "q")), lambda: asker.sound(lambda *_: "up")]:
                self.assertRaises(BeamError, call)
            self.assertEqual(book.hear(thing), ("none", {}))
            self.assertIn(desk.say(f"first {thing}"), ["refused", "what"] if thing != "x" else ["-2..2"])
            self.assertEqual(repr(thing), repr(handed))
        self.assertEqual(kept, [house.log(), house.record(), book.log(), book.waits(), len(book), desk.say("rows"),
                                asker.rows()])

    def test_nets_stay_when_they_refuse(self):
        for log in [[], torn_log()]:
            net, other = Net(two_beams(), log), Net(two_beams(), tuple(log))
            for call in [lambda: apart(net, "q", "a"), lambda: sheet(net, "a", "q"), lambda: sure(net, None),
                         lambda: net.low(None), lambda: net.far("q", "a", (0, 0)), lambda: net.worlds(0),
                         lambda: steered(net, "q", 0), lambda: plan(net, None, 0), lambda: lean_bar(net, "x", 2, 1)]:
                self.assertRaises(BeamError, call)
            self.assertEqual((net.leans(), net.log(), repr(torn(net))), (other.leans(), other.log(), repr(torn(other))))

    def test_records(self):
        chance = random.Random(219)
        for one in tiny_yards() * 2:
            record = lived_in(House(one), one, chance, 10).record()
            self.assertIsNone(judged(one, record))
            self.assertEqual(again(one, record).record(), record)
            if record:
                at = chance.randrange(len(record))
                self.assertEqual(judged(one, [*record[:at], ("undone",), *record[at:]]), at)

    def test_texts(self):
        chance = random.Random(220)
        for one, log in [*tiny_logs(221, 2), *great_logs(222, [0, 2]), *rising_logs(223, 1)]:
            self.assertEqual(read_yard(yard_text(one)), one)
            self.assertEqual(read_log(read_yard(yard_text(one)), log_text(log)), log)
            told = some_log(one, chance, 5)
            self.assertEqual(log_text(read_log(one, log_text(told))), log_text(told))

    def test_the_same_whenever_the_same_is_asked(self):
        chance = random.Random(224)
        for one, log, net, right in small(225, 2):
            if not right:
                continue
            again_net = Net(Yard(tuple(one.things()), tuple(one.beams()), most=one.most(), lean=one.lean()), tuple(log))
            pairs = chance.sample(brute.pairs(one), 3)
            weighing = some_weighing(one, chance)
            # asked in another order, too
            first = [*[sheet(net, *pair) for pair in pairs], next_words(net, weighing), net.leans(), net.worlds(3000)]
            last = [again_net.worlds(3000), again_net.leans(), next_words(again_net, weighing),
                    *[sheet(again_net, *pair) for pair in pairs[::-1]]]
            self.assertEqual(repr(first), repr(last[::-1]))


if __name__ == "__main__":
    unittest.main()
