"""Point 11: weighings, rows and logs."""

import unittest

from samples import anything, small_yard
from wearybeams.errors import NoRow
from wearybeams.rows import is_row, is_weighing, need_log, weighings
from wearybeams.yards import Yard

PANS = [None, "a", "b"]
WORDS = ["left", "even", "right"]

NO_WEIGHINGS = [
    ("x", "a", "a"), ("x", "b", "b"), ("a", "a", "a"), ("b", "a", None), ("y", "a", None), (None, "a", None),
    ("x", "c", None), ("x", None, "c"), ("x", "x", None), ("x", None, "x"), ("x", "-", None), ("x", "", None),
    ("x", 0, None), ("x", None, False), ("x", True, None), ("x", "A", None), (("x",), "a", None), ("x", ("a",), None),
    ["x", "a", None], ["x", None, None], ("x", "a"), ("x",), (), ("x", "a", None, "left"), ("x", "a", None, None),
    "xab", {"x": 1, "a": 2, "b": 3}, ("a", "x", "b"), (["x"], "a", None), ("x", {}, None), ("x", None, []),
]


def rows_of(yard):
    return [(*weighing, word) for weighing in weighings(yard) for word in WORDS]


class Weighing(unittest.TestCase):
    def test_what_is_one(self):
        yard = small_yard()
        for beam in ["x", "a"]:
            for left in PANS:
                for right in PANS:
                    with self.subTest(beam, left=left, right=right):
                        wanted = left is None or left != right
                        self.assertIs(is_weighing(yard, (beam, left, right)), wanted)

    def test_what_is_none(self):
        for thing in NO_WEIGHINGS:
            with self.subTest(thing=thing):
                self.assertIs(is_weighing(small_yard(), thing), False)

    def test_of_anything(self):
        for thing in anything():
            with self.subTest(thing=thing):
                self.assertIs(is_weighing(small_yard(), thing), thing == ("x", "a", None))
                self.assertIs(is_weighing(small_yard(), (thing, None, None)), thing in ["x", "a"])
                self.assertIs(is_weighing(small_yard(), ("x", thing, "b")), thing in [None, "a"])
                self.assertIs(is_weighing(small_yard(), ("x", "b", thing)), thing in [None, "a"])

    def test_of_another_yard(self):
        other = Yard(["p", "q"], [("z", 1)])
        for weighing in weighings(other):
            self.assertIs(is_weighing(small_yard(), weighing), False)
            self.assertIs(is_weighing(other, weighing), True)

    def test_by_names(self):
        self.assertIs(is_weighing(yard=small_yard(), thing=("x", "a", "b")), True)


class Row(unittest.TestCase):
    def test_what_is_one(self):
        yard = small_yard()
        self.assertEqual(len(rows_of(yard)), 42)
        for row in rows_of(yard):
            self.assertIs(is_row(yard, row), True)

    def test_other_words(self):
        for word in ["", "Left", "leftt", "l", "up", "even ", None, 0, 1, True, ["left"], ("left",), {"left": 1}]:
            with self.subTest(word=word):
                self.assertIs(is_row(small_yard(), ("x", "a", None, word)), False)

    def test_no_weighing_ahead_of_the_word(self):
        for thing in NO_WEIGHINGS:
            if type(thing) is tuple:
                with self.subTest(thing=thing):
                    self.assertIs(is_row(small_yard(), (*thing, "left")), False)

    def test_other_kinds_and_parts(self):
        for thing in [["x", "a", None, "left"], ("x", "a", None), ("x", "a", None, "left", "left"),
                      ("x", "a", None, "left", None), ("a", None, "left"), (("x", "a", None), "left"), "left",
                      {"x": 1, "a": 1, None: 1, "left": 1}, (1, "x", "a", None, "left")]:
            with self.subTest(thing=thing):
                self.assertIs(is_row(small_yard(), thing), False)

    def test_of_anything(self):
        for thing in anything():
            with self.subTest(thing=thing):
                self.assertIs(is_row(small_yard(), thing), thing == ("x", "a", None, "left"))
                self.assertIs(is_row(small_yard(), ("x", "a", "b", thing)), thing == "left")
                self.assertIs(is_row(small_yard(), ("x", thing, "b", "left")), thing in [None, "a"])

    def test_of_another_yard(self):
        for row in rows_of(Yard(["p"], [("z", 1)])):
            self.assertIs(is_row(small_yard(), row), False)

    def test_by_names(self):
        self.assertIs(is_row(yard=small_yard(), thing=("x", "a", "b", "even")), True)


class Log(unittest.TestCase):
    def refused(self, at, log):
        with self.subTest(log=log):
            with self.assertRaises(NoRow) as caught:
                need_log(small_yard(), log)
            self.assertEqual(caught.exception.at, at)
            self.assertIs(type(caught.exception.at), int)

    def test_logs(self):
        rows = rows_of(small_yard())
        for log in [[], (), rows, tuple(rows), [rows[0], rows[0]], rows * 2, (rows * 3)[:120]]:
            self.assertIsNone(need_log(small_yard(), log))

    def test_by_names(self):
        self.assertIsNone(need_log(yard=small_yard(), log=[]))

    def test_the_first_that_is_none(self):
        row = ("x", "a", "b", "left")
        for wrong in [("x", "a", "a", "left"), ("x", "a", "b"), ["x", "a", "b", "left"], None, "left", [], 0, {}]:
            self.refused(0, [wrong])
            self.refused(0, [wrong, wrong])
            self.refused(1, [row, wrong, row, wrong])
            self.refused(3, (row, row, row, wrong))
            self.refused(119, [row] * 119 + [wrong])

    def test_of_no_list(self):
        for log in [None, 0, 3, True, "", "left", {}, {("x", "a", "b", "left"): 1}, {0: ("x", "a", "b", "left")}]:
            self.refused(0, log)

    def test_a_row_is_no_log(self):
        self.refused(0, ("x", "a", "b", "left"))

    def test_of_anything(self):
        for thing in anything():
            if thing not in [[], ()]:
                self.refused(0, thing)
            if thing != ("x", "a", None, "left"):
                self.refused(0, [thing])
                self.refused(1, [("x", "a", None, "left"), thing])

    def test_what_is_handed_in_stays(self):
        log = [("x", "a", "b", "left"), ["x"]]
        self.assertRaises(NoRow, need_log, small_yard(), log)
        self.assertEqual(log, [("x", "a", "b", "left"), ["x"]])


class Weighings(unittest.TestCase):
    def test_all_in_order(self):
        wanted = [(beam, left, right) for beam in ["x", "a"] for left in PANS for right in PANS
                  if (left, right) not in [("a", "a"), ("b", "b")]]
        self.assertEqual(weighings(small_yard()), wanted)
        self.assertEqual(weighings(small_yard())[:4],
                         [("x", None, None), ("x", None, "a"), ("x", None, "b"), ("x", "a", None)])

    def test_the_orders_of_the_yard(self):
        self.assertEqual(weighings(Yard(["b", "a"], [("z", 1), ("y", 1)]))[:8], [
            ("z", None, None), ("z", None, "b"), ("z", None, "a"), ("z", "b", None), ("z", "b", "a"),
            ("z", "a", None), ("z", "a", "b"), ("y", None, None)])

    def test_how_many(self):
        names = ["a", "b", "c", "d", "e", "f", "g", "h"]
        for things in range(1, 9):
            for beams in range(1, 4):
                yard = Yard(names[:things], [(names[at], 1) for at in range(beams)])
                self.assertEqual(len(weighings(yard)), beams * (things * things + things + 1))
                self.assertTrue(all(is_weighing(yard, weighing) for weighing in weighings(yard)))

    def test_a_new_list_of_tuples_each_time(self):
        yard = small_yard()
        told = weighings(yard)
        self.assertIs(type(told), list)
        self.assertEqual({type(weighing) for weighing in told}, {tuple})
        told.clear()
        self.assertEqual(len(weighings(yard)), 14)

    def test_by_its_name(self):
        self.assertEqual(weighings(yard=Yard(["a"], [("x", 1)])),
                         [("x", None, None), ("x", None, "a"), ("x", "a", None)])


if __name__ == "__main__":
    unittest.main()
