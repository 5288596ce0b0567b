"""The error classes of packshelf.errors."""

import unittest

from packshelf import errors
from packshelf.errors import NoBox, NoNote, NoRoom, NoShelf, ShelfError, Twice, Unknown

KINDS = (NoShelf, NoBox, Twice, NoRoom, Unknown, NoNote)


class ErrorClasses(unittest.TestCase):
    def test_any_refusal_is_a_value_error(self):
        self.assertEqual(ShelfError.__bases__, (ValueError,))

    def test_each_kind_is_a_shelf_error_directly(self):
        for kind in KINDS:
            with self.subTest(kind=kind.__name__):
                self.assertEqual(kind.__bases__, (ShelfError,))

    def test_each_is_defined_in_this_file_under_its_name(self):
        for kind in (ShelfError, *KINDS):
            with self.subTest(kind=kind.__name__):
                self.assertEqual(kind.__module__, "packshelf.errors")
                self.assertIs(getattr(errors, kind.__name__), kind)

    def test_no_kind_is_caught_by_the_name_of_another(self):
        for kind in KINDS:
            for other in KINDS:
                with self.subTest(kind=kind.__name__, other=other.__name__):
                    self.assertEqual(issubclass(kind, other), kind is other)

    def test_each_is_raised_with_a_message_or_without(self):
        for kind in (ShelfError, *KINDS):
            with self.subTest(kind=kind.__name__):
                with self.assertRaises(ShelfError) as caught:
                    raise kind("told so")
                self.assertEqual(str(caught.exception), "told so")
                with self.assertRaises(ValueError):
                    raise kind()


if __name__ == "__main__":
    unittest.main()
