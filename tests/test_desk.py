"""Point 121: desks, and the answers to a text."""

import random
import unittest

import brute
from samples import falling_yard, great_yard, some_weighing, tiny_yards, torn_log, two_beams
from wearybeams.desk import Desk, answers
from wearybeams.levels import tied
from wearybeams.nets import Net
from wearybeams.stretches import apart, leaned, leans_now
from wearybeams.torn import is_tear, torn
from wearybeams.yards import Yard

KINDS = {"tell": 4, "apart": 2, "first": 1, "now": 1, "next": 3, "tied": 1, "undo": 0, "rows": 0}


def stretches_text(numbers):
    return " ".join(str(first) if first == last else f"{first}..{last}"
                    for first, last in brute.stretches(numbers))


class Clerk:
    """What a desk should say, by all worlds of its log; how many rings tear a log aside."""

    def __init__(self, yard):
        self.yard, self.log = yard, []

    def say(self, row):
        kind, *words = row.split(" ")
        if "" in [kind, *words] or KINDS.get(kind) != len(words):
            return "what"
        if kind == "tell" and words[3] not in brute.WORDS:
            return "what"
        pans = {"-": None, **{thing: thing for thing in self.yard.things()}}
        beams = [beam for beam, _ in self.yard.beams()]
        if kind in ("tell", "next", "first", "now", "tied") and words[0] not in beams:
            return "refused"
        if kind in ("tell", "apart", "next"):
            named = words if kind == "apart" else words[1:3]
            if any(word not in pans for word in named):
                return "refused"
            named = [pans[word] for word in named]
            if kind != "apart" and named[0] is not None and named[0] == named[1]:
                return "refused"
        else:
            named = []
        return self.answer(kind, words, named, brute.worlds(self.yard, self.log))

    def answer(self, kind, words, pans, right):
        if kind == "tell":
            row = (words[0], *pans, words[3])
            if not brute.worlds(self.yard, [*self.log, row]):
                return "torn"
            self.log.append(row)
            return "ok"
        if kind == "undo":
            return "ok" if self.log and self.log.pop() else "nothing"
        if kind == "rows":
            return str(len(self.log))
        if kind == "apart":
            return stretches_text([brute.heavier(world, *pans) for world in right])
        if kind in ("first", "now"):
            shift = brute.shifts(self.yard, self.log)[words[0]] if kind == "now" else 0
            return stretches_text([world[1][words[0]] + shift for world in right])
        if kind == "next":
            return " ".join(word for word in brute.WORDS
                            if brute.worlds(self.yard, [*self.log, (words[0], *pans, word)]))
        return {True: "tie", False: "level"}[self.is_tied(words[0])]

    def is_tied(self, beam):
        told = tied(self.yard, [row[:3] for row in self.log], beam)
        return brute.is_tie(self.yard, [row[:3] for row in self.log], beam, told[1:])


def some_row(yard, chance):
    """A row that is said to a desk; some are none."""
    names = [*yard.things(), "-", *[beam for beam, _ in yard.beams()], "q"]
    beam, left, right = some_weighing(yard, chance)
    pans = [left or "-", right or "-"]
    row = chance.choice([
        ["tell", beam, *pans, chance.choice(brute.WORDS)], ["tell", beam, *pans, chance.choice(brute.WORDS)],
        ["apart", *pans], ["first", beam], ["now", beam], ["next", beam, *pans], ["tied", beam], ["undo"], ["rows"]])
    if chance.random() < 0.3:
        at = chance.randrange(len(row))
        row[at] = chance.choice([*names, *KINDS, "up", "left", "", "-1"])
    if chance.random() < 0.1:
        row.insert(chance.randrange(len(row) + 1), chance.choice([*names, ""]))
    return " ".join(row)


class Saying(unittest.TestCase):
    def test_by_all_worlds(self):
        chance = random.Random(170)
        seen = {}
        for one in tiny_yards() * 4 + [falling_yard()]:
            desk, clerk = Desk(one), Clerk(one)
            for _ in range(25):
                row = some_row(one, chance)
                log = list(clerk.log)
                wanted, told = clerk.say(row), desk.say(row)
                if wanted == "torn":
                    kind, rings = told.split(" ")
                    words = row.split(" ")
                    bad = (words[1], *[None if word == "-" else word for word in words[2:4]], words[4])
                    self.assertEqual((kind, int(rings)), ("torn", len(torn(Net(one, [*log, bad])))))
                else:
                    self.assertEqual(told, wanted, (row, clerk.log))
                seen.setdefault(row.split(" ")[0], set()).add(wanted if wanted in ("refused", "what", "torn") else "")
        for kind, many in KINDS.items():
            self.assertLessEqual({"", "what"} if many == 0 else {"", "what", "refused"}, seen[kind], kind)
        self.assertIn("torn", seen["tell"])

    def test_by_hand(self):
        desk = Desk(yard=Yard(["a", "b"], [("x", 2), ("a", -1)], most=9, lean=1))
        for row, wanted in [
                ("rows", "0"), ("undo", "nothing"), ("apart - a", "1..9"), ("apart a b", "-8..8"), ("apart a a", "0"),
                ("apart - -", "0"), ("first x", "-1..1"), ("now a", "-1..1"), ("tied x", "level"),
                ("next x a -", "left even"), ("tell x - - left", "ok"), ("first x", "1"), ("now x", "-1"),
                ("tell a - - even", "ok"), ("now a", "0"), ("tied a", "tie"), ("tied x", "tie"), ("rows", "2"),
                ("tell x - - left", "torn 1"), ("rows", "2"), ("next x - -", "right"), ("tell a a b left", "ok"),
                ("now a", "1"), ("first a", "0"), ("apart a b", "-8..-1"), ("next a b a", "even right"),
                ("undo", "ok"), ("rows", "2"), ("undo", "ok"), ("undo", "ok"), ("undo", "nothing")]:
            self.assertEqual(desk.say(row=row), wanted, row)

    def test_stretches_with_gaps(self):
        one = Yard(["a", "b", "c"], [("x", 2)], most=5, lean=2)
        text = "tell x a b even\ntell x b c even\napart a c\napart a b\nfirst x\n"
        self.assertEqual(answers(one, text), ["ok", "ok", "-4 -2 0 2 4", "-2..2", "-2..2"])

    def test_rows_that_are_none(self):
        desk = Desk(two_beams())
        for row in ["", " ", "what", "tell", "tell x a b", "tell x a b left left", "tell x a b up", "tell x a b Left",
                    "tell x a b -", "tell  x a b left", " tell x a b left", "tell x a b left ", "Tell x a b left",
                    "apart", "apart a", "apart a b a", "apart  b", "apart a ", "first", "first x y", "now", "now x x",
                    "next x a", "next x a b left", "next", "tied", "tied x x", "undo undo", "undo ", " undo", "undo 1",
                    "rows 1", "rows ", "row", "log", "-", "x a b left", "rows\n", "undo\n", "tell x a b left\n",
                    "rows\nundo"]:
            self.assertEqual(desk.say(row), "what", row)
        self.assertEqual(desk.say("rows"), "0")

    def test_names_that_are_none(self):
        desk = Desk(two_beams())
        for row in ["tell q a b left", "tell a a b left", "tell - a b left", "tell x q b left", "tell x a q left",
                    "tell x x b left", "tell x a a left", "tell x b b even", "tell x A b left", "apart q a",
                    "apart a q", "apart x a", "apart a -a", "first q", "first a", "first -", "first None", "now q",
                    "now b", "now -", "next q a b", "next x q b", "next x a q", "next x a a", "next - - -", "tied q",
                    "tied a", "tied -"]:
            self.assertEqual(desk.say(row), "refused", row)
        self.assertEqual(desk.say("rows"), "0")

    def test_torn_rows_stay_without(self):
        one = two_beams()
        desk = Desk(one)
        for beam, left, right, word in torn_log()[:2]:
            self.assertEqual(desk.say(f"tell {beam} {left or '-'} {right or '-'} {word}"), "ok")
        kind, many = desk.say("tell y - - right").split(" ")
        tear = torn(Net(one, torn_log()))
        self.assertEqual((kind, many, is_tear(one, torn_log(), tear)), ("torn", str(len(tear)), True))
        self.assertEqual(desk.say("rows"), "2")

    def test_great_yards(self):
        chance = random.Random(171)
        one = great_yard(chance)
        desk, log = Desk(one), []
        world = ({thing: chance.randint(1, 100) for thing in one.things()}, {"x": 1, "y": -2, "z": 0})
        for beam, left, right, word in brute.words(one, world, [some_weighing(one, chance) for _ in range(8)]):
            self.assertEqual(desk.say(f"tell {beam} {left or '-'} {right or '-'} {word}"), "ok")
            log.append((beam, left, right, word))
        net = Net(one, log)
        for row, told in [("apart a b", apart(net, "a", "b")), ("first y", leaned(net, "y")),
                          ("now y", leans_now(net, "y"))]:
            wanted = " ".join(str(first) if first == last else f"{first}..{last}" for first, last in told)
            self.assertEqual(desk.say(row), wanted)


class Answers(unittest.TestCase):
    def test_of_a_whole_text(self):
        one = two_beams()
        for text, wanted in [
                ("", []), ("\n", ["what"]), ("rows", ["0"]), ("rows\n", ["0"]), ("rows\n\n", ["0", "what"]),
                ("\nrows", ["what", "0"]), ("undo\n\nundo\n", ["nothing", "what", "nothing"]), (" ", ["what"]),
                ("tell x a b left\nrows\nundo\nrows\n", ["ok", "1", "ok", "0"]), ("rows\nrows", ["0", "0"])]:
            self.assertEqual(answers(yard=one, text=text), wanted, text)

    def test_as_one_desk_says(self):
        chance = random.Random(172)
        for one in tiny_yards():
            rows = [some_row(one, chance) for _ in range(12)]
            desk = Desk(one)
            wanted = [desk.say(row) for row in rows]
            self.assertEqual(answers(one, "\n".join(rows) + "\n"), wanted)
            # each text has a desk of its own
            self.assertEqual(answers(one, "\n".join(rows) + "\n"), wanted)


if __name__ == "__main__":
    unittest.main()
