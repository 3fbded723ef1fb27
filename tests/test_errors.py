"""Point 3: the refusals, and where they stand."""

import unittest

from samples import anything
from wearybeams import errors
from wearybeams.errors import BeamError

FIELDS = {
    "NoRow": "at", "NoWorld": "rings", "NoPan": "pan", "NoBeam": "beam", "NoStep": "beam",
    "NoText": "row", "Torn": "rings", "TooMany": "bound",
}
OF_A_TEXT = ["NoYard", "NoAsk", "NoDeed"]


class Places(unittest.TestCase):
    def test_beam_error_is_a_value_error(self):
        self.assertEqual(BeamError.__bases__, (ValueError,))

    def test_each_stands_straight_under_beam_error(self):
        for name in [*FIELDS, *OF_A_TEXT]:
            with self.subTest(name):
                self.assertEqual(getattr(errors, name).__bases__, (BeamError,))

    def test_there_are_no_others(self):
        found = [name for name, thing in vars(errors).items() if isinstance(thing, type)]
        self.assertEqual(sorted(found), sorted(["BeamError", *FIELDS, *OF_A_TEXT]))


class Fields(unittest.TestCase):
    def test_the_field_is_just_what_was_handed_in(self):
        for name, field in FIELDS.items():
            for thing in anything():
                with self.subTest(name, thing=thing):
                    self.assertIs(getattr(getattr(errors, name)(thing), field), thing)

    def test_the_field_by_its_name(self):
        for name, field in FIELDS.items():
            with self.subTest(name):
                self.assertEqual(getattr(getattr(errors, name)(**{field: 7}), field), 7)

    def test_the_field_is_needed_and_is_all(self):
        for name in FIELDS:
            for handed_in in [(), (1, 2)]:
                with self.subTest(name, handed_in=handed_in):
                    self.assertRaises(TypeError, getattr(errors, name), *handed_in)

    def test_each_tells_some_text(self):
        for name in FIELDS:
            with self.subTest(name):
                self.assertTrue(str(getattr(errors, name)(3)))

    def test_the_others_are_made_of_a_text(self):
        for name in ["BeamError", *OF_A_TEXT]:
            with self.subTest(name):
                self.assertEqual(str(getattr(errors, name)("why not")), "why not")

    def test_caught_by_the_classes_above(self):
        for above in [BeamError, ValueError]:
            with self.assertRaises(above):
                raise errors.NoRow(2)


if __name__ == "__main__":
    unittest.main()
