"""Promise [1] and the interface: the refusals."""

import unittest

from namehouse import errors

NAMES = ["BadName", "BadRecord", "BadLetter", "BadZone", "BadRow", "BadChange", "BadTurn", "BadLine"]


class ErrorsTest(unittest.TestCase):
    def test_house_error_is_a_value_error(self):
        self.assertTrue(issubclass(errors.HouseError, ValueError))
        self.assertEqual(errors.HouseError.__bases__, (ValueError,))

    def test_each_error_stands_straight_under_house_error(self):
        for name in NAMES:
            error = getattr(errors, name)
            self.assertEqual(error.__bases__, (errors.HouseError,), name)
            self.assertTrue(issubclass(error, ValueError), name)

    def test_none_is_one_of_the_other_classes(self):
        for name in NAMES:
            for other in NAMES:
                if name != other:
                    self.assertFalse(issubclass(getattr(errors, name), getattr(errors, other)), (name, other))
            self.assertFalse(issubclass(errors.HouseError, getattr(errors, name)), name)

    def test_each_can_be_raised_and_caught_as_a_refusal(self):
        for name in NAMES:
            if name != "BadRow":
                with self.assertRaises(errors.HouseError, msg=name):
                    raise getattr(errors, name)("why")

    def test_bad_row_has_its_row(self):
        self.assertEqual(errors.BadRow(1).row, 1)
        self.assertEqual(errors.BadRow(61).row, 61)
        with self.assertRaises(errors.HouseError) as caught:
            raise errors.BadRow(7)
        self.assertEqual(caught.exception.row, 7)


if __name__ == "__main__":
    unittest.main()
