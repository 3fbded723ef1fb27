"""Point 10: yards and names."""

import unittest

from samples import anything, anything_but, small_yard
from wearybeams.errors import NoBeam, NoYard
from wearybeams.yards import LEAN, MOST, Yard, is_name

EIGHT = ["a", "b", "c", "d", "e", "f", "g", "h"]


def beams_of(many):
    return [("xyz"[at], 1) for at in range(many)]


class Names(unittest.TestCase):
    def test_names(self):
        for name in ["a", "z", "abcdefgh", "hgfedcba", "left", "most", "none", "zz"]:
            with self.subTest(name):
                self.assertIs(is_name(name), True)

    def test_every_small_letter(self):
        for letter in "abcdefghijklmnopqrstuvwxyz":
            self.assertIs(is_name(letter), True)

    def test_texts_that_are_no_names(self):
        for text in ["", "abcdefghi", "A", "aB", "Ab", "a1", "1", "a b", " a", "a ", "a\n", "\na", "-", "a_b", "a-"]:
            with self.subTest(text):
                self.assertIs(is_name(text), False)

    def test_every_other_sign(self):
        for at in range(32, 127):
            if not "a" <= chr(at) <= "z":
                self.assertIs(is_name("a" + chr(at)), False)
                self.assertIs(is_name(chr(at)), False)

    def test_letters_of_other_alphabets(self):
        self.assertIs(is_name("\u00e4"), False)

    def test_of_anything(self):
        for thing in anything():
            with self.subTest(thing=thing):
                self.assertIs(is_name(thing), thing in ["a", "x", "left", "abcdefgh"])

    def test_by_its_name(self):
        self.assertIs(is_name(thing="a"), True)


class Good(unittest.TestCase):
    def test_the_bounds_that_hold_where_none_is_told(self):
        self.assertEqual((MOST, LEAN), (20, 3))
        self.assertEqual((small_yard().most(), small_yard().lean()), (20, 3))
        self.assertIs(type(MOST), int)
        self.assertIs(type(LEAN), int)

    def test_what_was_handed_in_is_told(self):
        yard = Yard(["pear", "apple"], [("new", -5), ("old", 5)], most=7, lean=2)
        self.assertEqual(yard.things(), ["pear", "apple"])
        self.assertEqual(yard.beams(), [("new", -5), ("old", 5)])
        self.assertEqual((yard.most(), yard.lean()), (7, 2))
        self.assertEqual((yard.step("new"), yard.step("old")), (-5, 5))

    def test_by_names(self):
        yard = Yard(things=["a"], beams=[("x", 3)], most=4, lean=1)
        self.assertEqual((yard.things(), yard.beams(), yard.most(), yard.lean()), (["a"], [("x", 3)], 4, 1))
        self.assertEqual(yard.step(beam="x"), 3)

    def test_bounds_by_name_alone(self):
        self.assertRaises(TypeError, Yard, ["a"], [("x", 1)], 5)
        self.assertRaises(TypeError, Yard, ["a"], [("x", 1)], 5, 2)

    def test_one_to_eight_things(self):
        for many in range(1, 9):
            self.assertEqual(Yard(EIGHT[:many], [("x", 1)]).things(), EIGHT[:many])

    def test_one_to_three_beams(self):
        for many in range(1, 4):
            self.assertEqual(Yard(["a"], beams_of(many)).beams(), beams_of(many))

    def test_steps(self):
        for step in [-5, -4, -3, -2, -1, 1, 2, 3, 4, 5]:
            self.assertEqual(Yard(["a"], [("x", step)]).step("x"), step)

    def test_bounds(self):
        for most in [1, 2, 20, 99, 100]:
            self.assertEqual(Yard(["a"], [("x", 1)], most=most).most(), most)
        for lean in range(10):
            self.assertEqual(Yard(["a"], [("x", 1)], lean=lean).lean(), lean)

    def test_leans_of_all_beams_together(self):
        for many, lean in [(1, 9), (2, 9), (3, 3), (3, 0)]:
            with self.subTest(many=many, lean=lean):
                self.assertEqual(Yard(["a"], beams_of(many), lean=lean).lean(), lean)

    def test_long_names(self):
        self.assertEqual(Yard(["abcdefgh"], [("hgfedcba", 1)]).things(), ["abcdefgh"])

    def test_a_thing_and_a_beam_share_a_name(self):
        yard = Yard(["a", "b"], [("b", 1), ("a", 2)])
        self.assertEqual((yard.things(), yard.step("a"), yard.step("b")), (["a", "b"], 2, 1))

    def test_tuples_for_lists(self):
        yard = Yard(("a", "b"), (("x", 1), ("a", -2)))
        self.assertEqual((yard.things(), yard.beams()), (["a", "b"], [("x", 1), ("a", -2)]))
        self.assertEqual(yard, small_yard())

    def test_lists_are_told_new_each_time(self):
        yard = small_yard()
        yard.things().append("c")
        yard.beams().clear()
        self.assertEqual((yard.things(), yard.beams()), (["a", "b"], [("x", 1), ("a", -2)]))
        self.assertIsNot(yard.things(), yard.things())
        self.assertIsNot(yard.beams(), yard.beams())
        for told in [yard.things(), yard.beams()]:
            self.assertIs(type(told), list)

    def test_what_is_handed_in_stays_and_may_be_changed(self):
        things, beams = ["a", "b"], [("x", 1), ("a", -2)]
        yard = Yard(things, beams)
        self.assertEqual((things, beams), (["a", "b"], [("x", 1), ("a", -2)]))
        things.append("c")
        beams[0] = ("z", 5)
        self.assertEqual((yard.things(), yard.beams()), (["a", "b"], [("x", 1), ("a", -2)]))
        self.assertEqual(yard, small_yard())


class Bad(unittest.TestCase):
    def refused(self, things, beams, **bounds):
        with self.subTest(things=things, beams=beams, **bounds):
            self.assertRaises(NoYard, Yard, things, beams, **bounds)

    def test_things(self):
        for things in [[], (), EIGHT + ["i"], ["a", "a"], ["a", "b", "a"], [""], ["abcdefghi"], ["A"], ["a1"],
                       ["a", None], [1], [True], [["a"]], [("a",)], [{}], "a", "ab", {"a": 1}, None, 1, True]:
            self.refused(things, [("x", 1)])

    def test_how_many_beams(self):
        self.refused(["a"], [])
        self.refused(["a"], ())
        self.refused(["a"], [("x", 1), ("y", 1), ("z", 1), ("w", 1)])
        self.refused(["a"], [("x", 1), ("y", 1), ("z", 1), ("w", 1)], lean=0)

    def test_beams_in_no_list(self):
        for beams in ["x", "xy", {"x": 1}, {("x", 1): 1}, None, 1, True, ("x", 1), ["x", 1]]:
            self.refused(["a"], beams)

    def test_names_of_beams(self):
        for name in ["", "abcdefghi", "X", "x1", None, 1, True, ["x"], ("x",), {}]:
            self.refused(["a"], [(name, 1)])
            self.refused(["a"], [("y", 1), (name, 1)])
        self.refused(["a"], [("x", 1), ("x", 1)])
        self.refused(["a"], [("x", 1), ("y", 1), ("x", 2)])

    def test_pairs(self):
        for pair in [["x", 1], ("x",), (), ("x", 1, 1), "x", None, 1, {"x": 1}]:
            self.refused(["a"], [pair])
            self.refused(["a"], [("y", 1), pair])

    def test_steps(self):
        for step in [0, 6, -6, 10 ** 6, True, False, None, "1", "", [1], (1,), {}]:
            self.refused(["a"], [("x", step)])
            self.refused(["a"], [("y", 1), ("x", step)])

    def test_bounds(self):
        for most in [0, 101, -1, 10 ** 6, True, False, None, "20", [20], (20,), {}]:
            self.refused(["a"], [("x", 1)], most=most)
        for lean in [-1, 10, 10 ** 6, True, False, None, "3", [3], (3,), {}]:
            self.refused(["a"], [("x", 1)], lean=lean)

    def test_too_many_leans_of_all_beams_together(self):
        for lean in range(4, 10):
            self.refused(["a"], beams_of(3), lean=lean)

    def test_anything_in_each_place(self):
        for thing in anything_but(["a"], ["a", "b"], ("a",), ("a", "b")):
            self.refused(thing, [("x", 1)])
        for thing in anything():
            self.refused(["a"], thing)
        for thing in anything_but("x", "left", "abcdefgh"):
            self.refused(["a", thing], [("x", 1)])
            self.refused(["a"], [("a", 1), (thing, 1)])
        for thing in anything_but(("x", 1)):
            self.refused(["a"], [("y", 1), thing])
        for thing in anything_but(-1, 1, 2):
            self.refused(["a"], [("x", thing)])
        for thing in anything_but(1, 2):
            self.refused(["a"], [("x", 1)], most=thing)
        for thing in anything_but(0, 1, 2):
            self.refused(["a"], [("x", 1)], lean=thing)


class Step(unittest.TestCase):
    def test_of_each_beam(self):
        yard = Yard(["a"], [("x", 4), ("a", -3), ("z", 1)])
        self.assertEqual([yard.step(beam) for beam in ["x", "a", "z"]], [4, -3, 1])

    def test_of_anything_that_is_no_beam(self):
        for thing in [*anything_but("x", "a"), "b", "y", "xx", "X"]:
            with self.subTest(thing=thing):
                with self.assertRaises(NoBeam) as caught:
                    small_yard().step(thing)
                self.assertIs(caught.exception.beam, thing)

    def test_a_refusal_changes_nothing(self):
        yard = small_yard()
        self.assertRaises(NoBeam, yard.step, "b")
        self.assertEqual(yard, small_yard())


class Equal(unittest.TestCase):
    def test_alike(self):
        self.assertTrue(small_yard() == small_yard())
        self.assertFalse(small_yard() != small_yard())
        self.assertTrue(small_yard() == Yard(["a", "b"], [("x", 1), ("a", -2)], most=20, lean=3))

    def test_otherwise_in_one(self):
        beams = [("x", 1), ("a", -2)]
        others = [
            Yard(["a"], beams), Yard(["a", "c"], beams), Yard(["b", "a"], beams), Yard(["a", "b", "c"], beams),
            Yard(["a", "b"], [("x", 1)]), Yard(["a", "b"], [("y", 1), ("a", -2)]),
            Yard(["a", "b"], [("x", 2), ("a", -2)]), Yard(["a", "b"], [("x", 1), ("a", 2)]),
            Yard(["a", "b"], [("a", -2), ("x", 1)]), Yard(["a", "b"], [*beams, ("z", 1)]),
            Yard(["a", "b"], beams, most=19), Yard(["a", "b"], beams, lean=2),
        ]
        for at, other in enumerate(others):
            with self.subTest(at):
                self.assertFalse(small_yard() == other)
                self.assertFalse(other == small_yard())
                self.assertTrue(small_yard() != other)

    def test_to_nothing_but_yards(self):
        parts = (["a", "b"], [("x", 1), ("a", -2)], 20, 3)
        for thing in [*anything(), parts, list(parts), Yard, object()]:
            with self.subTest(thing=thing):
                self.assertFalse(small_yard() == thing)
                self.assertFalse(thing == small_yard())
                self.assertTrue(small_yard() != thing)


if __name__ == "__main__":
    unittest.main()
