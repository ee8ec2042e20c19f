"""Point 5, and the error classes of the interface."""

import unittest

from keptpictures import errors

PLAIN = ("Unlike", "BadPicture", "BadTable", "BadHead", "NotWhole", "NoHead", "TooLarge", "Coloured", "NoStep")

TOLD = {
    "NoCell": ("x", "y"),
    "BadEdit": ("place",),
    "BadPalette": ("place",),
    "NoEntry": ("place",),
    "NoColour": ("colour",),
    "TooMany": ("number",),
    "NoRung": ("number",),
    "BadBits": ("at",),
    "BadContent": ("at",),
    "BadPlan": ("place",),
    "BadFile": ("at", "chunk"),
    "Clash": ("sheet", "factors"),
    "BadCommand": ("line",),
    "NoName": ("name",),
    "WrongKind": ("name",),
    "NoPlace": ("place",),
    "Stopped": ("place",),
    "BadLimit": ("number",),
    "BadField": ("name",),
}


class ErrorTest(unittest.TestCase):
    def test_keep_error_is_directly_below_value_error(self):
        self.assertEqual(errors.KeepError.__bases__, (ValueError,))

    def test_every_other_error_is_directly_below_keep_error(self):
        for name in (*PLAIN, *TOLD):
            with self.subTest(name):
                self.assertEqual(getattr(errors, name).__bases__, (errors.KeepError,))

    def test_no_error_is_below_another_one(self):
        for name in (*PLAIN, *TOLD):
            for other in (*PLAIN, *TOLD):
                below = issubclass(getattr(errors, name), getattr(errors, other))
                self.assertEqual(below, name == other, (name, other))

    def test_every_error_is_defined_in_its_file_under_its_own_name(self):
        for name in ("KeepError", *PLAIN, *TOLD):
            error = getattr(errors, name)
            self.assertEqual((error.__module__, error.__name__), ("keptpictures.errors", name))

    def test_errors_without_attributes_are_made_without_arguments(self):
        for name in PLAIN:
            error = getattr(errors, name)
            with self.subTest(name), self.assertRaises(errors.KeepError):
                raise error()

    def test_attributes_are_what_was_passed_by_position(self):
        values = ((1, -2), "abc", -5, (), 10 ** 59)
        for name, fields in TOLD.items():
            for start in range(len(values)):
                passed = (values + values)[start:start + len(fields)]
                with self.subTest(name), self.assertRaises(ValueError) as caught:
                    raise getattr(errors, name)(*passed)
                got = [getattr(caught.exception, field) for field in fields]
                self.assertEqual([id(value) for value in got], [id(value) for value in passed])

    def test_errors_can_be_shown(self):
        for name in PLAIN:
            self.assertIsInstance(str(getattr(errors, name)()), str)
        for name, fields in TOLD.items():
            self.assertIsInstance(str(getattr(errors, name)(*range(len(fields)))), str)


if __name__ == "__main__":
    unittest.main()
