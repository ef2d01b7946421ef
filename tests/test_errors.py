"""[2]: the error classes, each under just the built-in class named, keeping what stands in its brackets."""

import unittest

from bothroads import errors


class ErrorsTest(unittest.TestCase):
    def test_each_stands_directly_under_its_built_in_class(self):
        self.assertEqual(errors.NoPlace.__bases__, (LookupError,))
        for own in (errors.BadLine, errors.CanNot, errors.TooMuch, errors.Unfit):
            self.assertEqual(own.__bases__, (ValueError,))

    def test_what_is_in_the_brackets_is_kept_by_place_and_by_name(self):
        for place in (1, 0, -3, 10 ** 40):
            self.assertEqual(errors.NoPlace(place).place, place)
            self.assertEqual(errors.NoPlace(place=place).place, place)
            self.assertEqual(errors.BadLine(place).line, place)
            self.assertEqual(errors.BadLine(line=place).line, place)

    def test_those_without_brackets_are_raised_bare(self):
        for own in (errors.CanNot, errors.TooMuch, errors.Unfit):
            with self.assertRaises(own):
                raise own()

    def test_none_is_caught_as_another_one(self):
        classes = (errors.NoPlace, errors.BadLine, errors.CanNot, errors.TooMuch, errors.Unfit)
        for own in classes:
            for other in classes:
                self.assertEqual(issubclass(own, other), own is other)


if __name__ == "__main__":
    unittest.main()
