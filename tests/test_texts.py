"""Point 120: yards and logs as texts, told and read back."""

import random
import re
import string
import unittest

import brute
from samples import anything, falling_yard, great_yard, rising_yards, some_log, tiny_yards, two_beams
from wearybeams.errors import NoRow, NoText, NoYard
from wearybeams.texts import log_text, read_log, read_yard, yard_text
from wearybeams.yards import Yard

NAME = "[a-z]{1,8}"
NUMBER = "(?:0|-?[1-9][0-9]*)"
THINGS = f"things(?: {NAME})+"
BEAM = f"beam {NAME} {NUMBER}"
SIGNS = string.ascii_lowercase[:4] + "-0129 \nxXA~."


def fault_of(text):
    """The number of the first row of anything that isn't so, as the text of a yard; None without."""
    if type(text) is not str:
        return 0
    *rows, rest = text.split("\n")
    forms = [THINGS, BEAM]
    for at, row in enumerate(rows):
        if at > 1 and at == len(forms) and not re.fullmatch(f"most {NUMBER}", row):
            forms.append(BEAM)
        elif at > 1 and at == len(forms):
            forms += [f"most {NUMBER}", f"lean {NUMBER}"]
        if at >= len(forms) or not re.fullmatch(forms[at], row):
            return at
        if forms[at].startswith("lean"):
            break
    if not forms[-1].startswith("lean") or len(rows) < len(forms):
        return len(rows)
    return len(forms) if len(rows) > len(forms) or rest else None


def makes_yard(text):
    """Whether the rows of a yard's text make one."""
    rows = [row.split(" ") for row in text.split("\n")[:-1]]
    things, beams = rows[0][1:], rows[1:-2]
    most, lean = int(rows[-2][1]), int(rows[-1][1])
    names = [name for _, name, _ in beams]
    return (len(things) <= 8 and len(set(things)) == len(things) and len(beams) <= 3 and len(set(names)) == len(names)
            and all(int(step) != 0 and abs(int(step)) <= 5 for _, _, step in beams)
            and 1 <= most <= 100 and 0 <= lean <= 9 and (2 * lean + 1) ** len(beams) <= 400)


def log_fault_of(yard, text):
    """The number of the first row of anything that isn't so, as the text of a log; None without."""
    if type(text) is not str:
        return 0
    rows = {" ".join([beam, left or "-", right or "-", word])
            for beam, left, right in brute.weighings(yard) for word in brute.WORDS}
    *told, rest = text.split("\n")
    wrong = [at for at, row in enumerate(told) if row not in rows]
    return wrong[0] if wrong else len(told) if rest else None


def changed(text, chance):
    """A text with something otherwise: signs or rows."""
    rows = text.split("\n")
    at = chance.randrange(len(text) + 1)
    row = chance.randrange(len(rows))
    return chance.choice([
        text[:at] + chance.choice(SIGNS) + text[at:], text[:at] + text[at + 1:], text[:at],
        text[:at] + chance.choice(SIGNS) + text[at + 1:], text + chance.choice(SIGNS),
        "\n".join(rows[:row] + rows[row + 1:]), "\n".join(rows[:row] + rows[row:row + 1] + rows[row:]),
        "\n".join(rows[row:] + rows[:row]), text * 2, text.replace(" ", "  ", 1), text.replace("-", "", 1)])


class Yards(unittest.TestCase):
    def yards(self):
        chance = random.Random(160)
        return [*tiny_yards(), *rising_yards(), falling_yard(), great_yard(chance), great_yard(chance),
                Yard(["abcdefgh"], [("things", -5)], most=100, lean=9), Yard(["most", "lean"], [("beam", 5)], lean=0)]

    def test_told_and_read_back(self):
        for one in self.yards():
            text = yard_text(one)
            self.assertEqual(type(text), str)
            self.assertEqual(read_yard(text=text), one)
            self.assertEqual(yard_text(yard=read_yard(text)), text)

    def test_by_hand(self):
        one = Yard(["b", "a"], [("x", 2), ("a", -1)])
        text = "things b a\nbeam x 2\nbeam a -1\nmost 20\nlean 3\n"
        self.assertEqual(yard_text(one), text)
        told = read_yard(text)
        self.assertEqual((told.things(), told.beams(), told.most(), told.lean()),
                         (["b", "a"], [("x", 2), ("a", -1)], 20, 3))

    def refused(self, text, row):
        with self.subTest(text=text), self.assertRaises(NoText) as caught:
            read_yard(text)
        self.assertEqual(caught.exception.row, row)

    def test_rows_that_are_not_so(self):
        for text, row in [
                ("", 0), ("\n", 0), ("things a", 0), ("things\n", 0), ("things \n", 0), ("things a \n", 0),
                ("things  a\n", 0), (" things a\n", 0), ("Things a\n", 0), ("things A\n", 0), ("things a1\n", 0),
                ("things abcdefghi\n", 0), ("things -\n", 0), ("thing a\n", 0), ("thingsa\n", 0), ("beam x 1\n", 0),
                ("things a\n", 1), ("things a\n\n", 1), ("things a\nthings b\n", 1), ("things a\nmost 20\n", 1),
                ("things a\nlean 3\n", 1), ("things a\nbeam x 1", 1), ("things a\nbeam x\n", 1),
                ("things a\nbeam x 1 1\n", 1), ("things a\nbeam x one\n", 1), ("things a\nbeam - 1\n", 1),
                ("things a\nbeam x 1\n", 2), ("things a\nbeam x 1\nlean 3\n", 2), ("things a\nbeam x 1\nmost\n", 2),
                ("things a\nbeam x 1\nmost 20 20\n", 2), ("things a\nbeam x 1\nbeam\n", 2),
                ("things a\nbeam x 1\nthings b\n", 2), ("things a\nbeam x 1\nmost 20\n", 3),
                ("things a\nbeam x 1\nmost 20\nmost 20\n", 3), ("things a\nbeam x 1\nmost 20\nbeam y 1\n", 3),
                ("things a\nbeam x 1\nmost 20\nlean 3", 3), ("things a\nbeam x 1\nmost 20\nlean\n", 3),
                ("things a\nbeam x 1\nmost 20\nlean 3\n\n", 4), ("things a\nbeam x 1\nmost 20\nlean 3\nx", 4),
                ("things a\nbeam x 1\nmost 20\nlean 3\n ", 4), ("things a\nbeam x 1\nmost 20\nlean 3\nlean 3\n", 4),
                ("things a\nbeam x 1\nbeam y 1\nmost 20\nlean 3\nmost 2\n", 5),
                ("things a\nbeam x 1\nmost 20\nx\nlean 3", 3), ("things A\nx", 0)]:
            self.refused(text, row)
            self.assertEqual(fault_of(text), row, text)

    def test_numbers(self):
        for word in ["+1", "01", "-0", "00", "-01", "1.0", "1e1", "-", "--1", "1-", "1_0", "0x1", "one", "- 1", "1a",
                     "None", "True"]:
            self.refused(f"things a\nbeam x {word}\nmost 20\nlean 3\n", 1)
            self.refused(f"things a\nbeam x 1\nmost {word}\nlean 3\n", 2)
            self.refused(f"things a\nbeam x 1\nmost 20\nlean {word}\n", 3)
        for step in [-5, -1, 1, 5]:
            self.assertEqual(read_yard(f"things a\nbeam x {step}\nmost 100\nlean 0\n").beams(), [("x", step)])

    def test_no_text_of_anything(self):
        for thing in [*anything(), ["things a\n"], ("things a\nbeam x 1\nmost 20\nlean 3\n",)]:
            self.refused(thing, 0)

    def test_no_yard_behind_all_rows(self):
        good = "things a\nbeam x 1\nmost 20\nlean 3\n"
        for old, new in [("things a", "things a a"), ("things a", "things " + " ".join("abcdefghi")), ("x 1", "x 0"),
                         ("x 1", "x 6"), ("x 1", "x -6"), ("x 1", "x 1" + "0" * 30), ("beam x 1", "beam x 1\nbeam x 1"),
                         ("beam x 1", "beam x 1\nbeam y 1\nbeam z 1\nbeam w 1"), ("most 20", "most 0"),
                         ("most 20", "most 101"), ("most 20", "most -1"), ("lean 3", "lean 10"), ("lean 3", "lean -1"),
                         ("beam x 1\nmost 20\nlean 3", "beam x 1\nbeam y 1\nbeam z 1\nmost 20\nlean 4")]:
            text = good.replace(old, new)
            with self.subTest(text=text):
                self.assertRaises(NoYard, read_yard, text)
                self.assertFalse(makes_yard(text))
                # what isn't so of any row comes ahead of it
                many = text.count("\n")
                self.refused(text + "x", many)
                self.refused(text[:-1], many - 1)

    def test_something_otherwise(self):
        chance = random.Random(161)
        seen = set()
        for one in self.yards():
            for _ in range(120):
                text = changed(yard_text(one), chance)
                fault = fault_of(text)
                if fault is not None:
                    self.refused(text, fault)
                elif makes_yard(text):
                    self.assertEqual(yard_text(read_yard(text)), text)
                else:
                    self.assertRaises(NoYard, read_yard, text)
                seen.add(fault if fault is not None else makes_yard(text))
        self.assertLessEqual({0, 1, 2, 3, 4, 5, True, False}, seen)


class Logs(unittest.TestCase):
    def test_told_and_read_back(self):
        chance = random.Random(162)
        for one in [*tiny_yards(), great_yard(chance)]:
            for many in [0, 1, 5, 120]:
                log = some_log(one, chance, many, many // 3)
                text = log_text(log=log)
                self.assertEqual((type(text), log_text(tuple(log))), (str, text))
                self.assertEqual(read_log(yard=one, text=text), log)
                self.assertEqual(text.count("\n"), many)

    def test_by_hand(self):
        log = [("x", "a", "b", "left"), ("y", None, "b", "even"), ("x", None, None, "right"), ("y", "a", None, "left")]
        text = "x a b left\ny - b even\nx - - right\ny a - left\n"
        self.assertEqual((log_text(log), log_text([])), (text, ""))
        self.assertEqual((read_log(two_beams(), text), read_log(two_beams(), "")), (log, []))

    def refused(self, text, row):
        with self.subTest(text=text), self.assertRaises(NoText) as caught:
            read_log(two_beams(), text)
        self.assertEqual(caught.exception.row, row)

    def test_rows_that_are_not_so(self):
        good = "x a b left\n"
        for row in ["", "x", "x a b", "x a b left left", "x a b  left", " x a b left", "x a b left ", "x  b left",
                    "z a b left", "x z b left", "x a z left", "x a b up", "x a b Left", "x a a left", "x a b -",
                    "- a b left", "x A b left", "X a b left", "x -- b left", "a x b left", "x None b left"]:
            for ahead in range(3):
                self.refused(good * ahead + row + "\n" + good, ahead)
                self.refused(good * ahead + row + "\n", ahead)
        for ahead in range(3):
            self.refused(good * ahead + good[:-1], ahead)
            self.refused(good * ahead + " ", ahead)
            self.refused(good * ahead + "x", ahead)
        self.refused(good + "z a b left\n" + good[:-1], 1)

    def test_no_text_of_anything(self):
        for thing in [*anything(), [("x", "a", "b", "left")], ["x a b left\n"]]:
            if thing != "":
                self.refused(thing, 0)

    def test_something_otherwise(self):
        chance = random.Random(163)
        seen = set()
        for one in tiny_yards():
            for _ in range(80):
                text = changed(log_text(some_log(one, chance, chance.choice([1, 2, 5]))), chance)
                fault = log_fault_of(one, text)
                if fault is None:
                    self.assertEqual(log_text(read_log(one, text)), text)
                else:
                    with self.assertRaises(NoText) as caught:
                        read_log(one, text)
                    self.assertEqual(caught.exception.row, fault)
                seen.add(fault)
        self.assertLessEqual({None, 0, 1, 2, 3}, seen)

    def test_text_of_no_log(self):
        good = ("x", "a", None, "left")
        for thing in [*anything(), good]:
            if thing in ([], ()):
                continue
            if type(thing) not in (list, tuple) or thing[0] != good:
                with self.assertRaises(NoRow) as caught:
                    log_text(thing)
                self.assertEqual(caught.exception.at, 0)
        for bad in [None, good[:3], list(good), ("x", "a", "a", "left"), ("x", "a", "b", "up"), ("X", "a", "b", "left"),
                    ("x", "-", "b", "left"), ("x", 1, "b", "left"), (None, "a", "b", "left")]:
            with self.subTest(bad=bad), self.assertRaises(NoRow) as caught:
                log_text([good, good, bad, None])
            self.assertEqual(caught.exception.at, 2)


if __name__ == "__main__":
    unittest.main()
