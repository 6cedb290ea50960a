"""The classes of errors: what stands under what, and the field row."""

import unittest

from fewsaves.errors import BadRow, NoWorks, SaveError


class Errors(unittest.TestCase):
    def test_what_stands_under_what(self):
        self.assertEqual(SaveError.__bases__, (ValueError,))
        self.assertEqual(BadRow.__bases__, (SaveError,))
        self.assertEqual(NoWorks.__bases__, (SaveError,))

    def test_none_stands_under_another_ones(self):
        self.assertFalse(issubclass(BadRow, NoWorks))
        self.assertFalse(issubclass(NoWorks, BadRow))

    def test_names(self):
        self.assertEqual([kind.__name__ for kind in (SaveError, BadRow, NoWorks)], ["SaveError", "BadRow", "NoWorks"])

    def test_row_is_what_it_was_made_with(self):
        for row in (0, 1, 7, 999, 10 ** 12):
            with self.assertRaises(BadRow) as caught:
                raise BadRow(row)
            self.assertIs(type(caught.exception.row), int)
            self.assertEqual(caught.exception.row, row)

    def test_rows_of_two_errors_are_their_own(self):
        first = BadRow(3)
        second = BadRow(4)
        self.assertEqual((first.row, second.row), (3, 4))

    def test_made_with_words(self):
        with self.assertRaises(SaveError) as caught:
            raise NoWorks("a call leads nowhere")
        self.assertIn("a call leads nowhere", str(caught.exception))

    def test_taken_as_save_error_and_as_value_error(self):
        for kind in (SaveError, ValueError):
            for error in (BadRow(2), NoWorks("none")):
                with self.assertRaises(kind):
                    raise error


if __name__ == "__main__":
    unittest.main()
