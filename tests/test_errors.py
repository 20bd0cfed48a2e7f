"""Points 1 and the heading windowbelt/errors.py: every error with its fields."""

import unittest

from windowbelt import errors

PLAIN = (
    "BadInstruction", "BadState", "BadNumber", "BadEvent", "BadEntry", "BadDesign", "BadKind",
    "BadTable", "BadGuesser", "BadBlock", "NotMade", "NotText", "NotNow", "NothingToUndo",
)
FIELDS = {"BadProgram": "index", "TooLong": "most", "BadRow": "index", "InvalidText": "line"}


class Errors(unittest.TestCase):
    def test_base(self):
        self.assertEqual(errors.WindowError.__bases__, (ValueError,))

    def test_every_error_is_a_direct_subclass_defined_here(self):
        for name in PLAIN + tuple(FIELDS):
            with self.subTest(name):
                self.assertEqual(getattr(errors, name).__bases__, (errors.WindowError,))
                self.assertEqual(getattr(errors, name).__module__, "windowbelt.errors")

    def test_there_are_no_others(self):
        self.assertEqual(
            {kind.__name__ for kind in errors.WindowError.__subclasses__()},
            set(PLAIN) | set(FIELDS),
        )

    def test_fields(self):
        for name, field in FIELDS.items():
            for value in (0, 1, 500, None):
                with self.subTest(name, value=value):
                    kind = getattr(errors, name)
                    self.assertEqual(vars(kind(value)), {field: value})
                    self.assertEqual(vars(kind(**{field: value})), {field: value})

    def test_errors_without_fields(self):
        for name in PLAIN:
            with self.subTest(name):
                self.assertEqual(vars(getattr(errors, name)()), {})

    def test_caught_as_value_error(self):
        with self.assertRaises(ValueError):
            raise errors.TooLong(500)


if __name__ == "__main__":
    unittest.main()
