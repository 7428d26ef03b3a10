"""The error classes of the interface."""

import unittest

from wholesides import errors

PLAIN = ["NoShape", "NoFace", "NoPiece", "NoCorner", "NoWish", "NoFit", "NotClosed", "TooMany",
         "NoRow", "NoName"]
FIELDS = {"NoOrder": "at", "NoShrink": "at", "NoText": "line"}


class ErrorsTest(unittest.TestCase):
    def test_side_error_is_straight_under_value_error(self):
        self.assertEqual(errors.SideError.__bases__, (ValueError,))

    def test_each_is_straight_under_side_error(self):
        for name in PLAIN + list(FIELDS):
            with self.subTest(name=name):
                self.assertEqual(getattr(errors, name).__bases__, (errors.SideError,))

    def test_there_are_no_others(self):
        kinds = [name for name, thing in vars(errors).items() if isinstance(thing, type)]
        self.assertEqual(sorted(kinds), sorted(["SideError"] + PLAIN + list(FIELDS)))

    def test_plain_ones_are_raised_and_caught(self):
        for name in PLAIN:
            kind = getattr(errors, name)
            with self.subTest(name=name), self.assertRaises(kind) as caught:
                raise kind("why")
            self.assertEqual(str(caught.exception), "why")

    def test_those_with_a_field_are_made_of_it(self):
        for name, field in FIELDS.items():
            for worth in (0, 1, 39, 10 ** 59):
                with self.subTest(name=name, worth=worth):
                    kind = getattr(errors, name)
                    with self.assertRaises(errors.SideError) as caught:
                        raise kind(worth)
                    self.assertEqual(getattr(caught.exception, field), worth)
                    self.assertIsInstance(caught.exception, kind)

    def test_none_is_caught_as_another(self):
        kinds = [getattr(errors, name) for name in PLAIN + list(FIELDS)]
        for one in kinds:
            for other in kinds:
                self.assertEqual(issubclass(one, other), one == other)


if __name__ == "__main__":
    unittest.main()
