"""The classes of refusals, as the interface tells them."""

import unittest

from swellways import errors

NAMES = ("BadDeed", "Taken", "NoName", "NoDeed", "NoLine")


class Errors(unittest.TestCase):
    def test_any_refusal_is_a_value_error(self):
        self.assertEqual(errors.WayError.__bases__, (ValueError,))

    def test_each_stands_straight_under_it(self):
        for name in NAMES + ("NoText",):
            self.assertEqual(getattr(errors, name).__bases__, (errors.WayError,), name)

    def test_each_is_made_with_a_text(self):
        for name in NAMES:
            with self.assertRaises(errors.WayError) as told:
                raise getattr(errors, name)("some words")
            self.assertIs(type(told.exception), getattr(errors, name))
            self.assertEqual(str(told.exception), "some words")

    def test_no_text_has_its_row(self):
        for row in (0, 1, 17):
            self.assertEqual(errors.NoText(row).row, row)
            with self.assertRaises(errors.WayError):
                raise errors.NoText(row)


if __name__ == "__main__":
    unittest.main()
