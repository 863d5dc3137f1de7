"""The refusals, as the interface tells them."""

import unittest

from disposehall import errors
from disposehall.errors import HallError, NoBook, Unlike

NAMES = [
    "NoDay", "NoLength", "NoTerm", "TooWide", "NoBook", "PutTwice",
    "HeldTwice", "NoSeries", "RunBack", "Unlike", "NoRow",
]


class ErrorsTest(unittest.TestCase):
    def test_hall_error_is_a_value_error(self):
        self.assertTrue(issubclass(HallError, ValueError))

    def test_each_is_under_hall_error(self):
        for name in NAMES:
            with self.subTest(name=name):
                self.assertTrue(issubclass(getattr(errors, name), HallError))
                self.assertTrue(issubclass(getattr(errors, name), ValueError))
                self.assertIsNot(getattr(errors, name), HallError)

    def test_none_is_under_another(self):
        for name in NAMES:
            for other in NAMES:
                if name != other:
                    with self.subTest(name=name, other=other):
                        self.assertFalse(issubclass(getattr(errors, name), getattr(errors, other)))

    def test_each_can_be_raised_and_taken_as_a_refusal(self):
        for name in NAMES:
            with self.subTest(name=name):
                with self.assertRaises(HallError) as caught:
                    raise getattr(errors, name)("words")
                self.assertIs(type(caught.exception), getattr(errors, name))

    def test_no_book_has_its_row(self):
        for row in [1, 2, 10 ** 50]:
            self.assertEqual(NoBook(row).row, row)

    def test_unlike_has_its_name(self):
        self.assertEqual(Unlike("letters").name, "letters")

    def test_values_are_set_when_an_error_is_made_not_on_its_class(self):
        first = NoBook(1)
        second = NoBook(2)
        self.assertEqual((first.row, second.row), (1, 2))
        self.assertFalse(hasattr(NoBook, "row"))
        self.assertFalse(hasattr(Unlike, "name"))


if __name__ == "__main__":
    unittest.main()
