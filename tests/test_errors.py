"""The errors: fields, base classes, and ways of making them."""

import unittest

from bondwords import errors

WITH_FIELDS = {
    "BadBonds": "place",
    "BadWord": "place",
    "BadRow": "value",
    "BadDeed": "place",
    "BadNumber": "value",
    "BadChoice": "value",
    "BadText": "place",
}
WITHOUT_FIELDS = ("Unlike", "NothingLeft", "Endless")


class ErrorsTest(unittest.TestCase):

    def test_bond_error_is_a_value_error_made_of_nothing(self):
        self.assertEqual(errors.BondError.__bases__, (ValueError,))
        with self.assertRaises(ValueError):
            raise errors.BondError()

    def test_direct_subclasses(self):
        for name in list(WITH_FIELDS) + list(WITHOUT_FIELDS):
            with self.subTest(name):
                self.assertEqual(getattr(errors, name).__bases__, (errors.BondError,))

    def test_fields_by_position_and_by_name(self):
        for name, field in WITH_FIELDS.items():
            kind = getattr(errors, name)
            for value in (None, 0, 17, (2, 1), "text", [1]):
                with self.subTest(name, value=value):
                    self.assertIs(getattr(kind(value), field), value)
                    self.assertIs(getattr(kind(**{field: value}), field), value)

    def test_fields_must_be_told(self):
        for name in list(WITH_FIELDS) + ["TooGreat"]:
            with self.subTest(name), self.assertRaises(TypeError):
                getattr(errors, name)()

    def test_errors_made_of_nothing(self):
        for name in WITHOUT_FIELDS:
            with self.subTest(name), self.assertRaises(errors.BondError):
                raise getattr(errors, name)()

    def test_too_great_is_an_overflow_error(self):
        self.assertEqual(errors.TooGreat.__bases__, (OverflowError,))
        self.assertFalse(issubclass(errors.TooGreat, ValueError))
        self.assertEqual(errors.TooGreat(60).most, 60)
        self.assertEqual(errors.TooGreat(most=6).most, 6)


if __name__ == "__main__":
    unittest.main()
