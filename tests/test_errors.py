"""The error classes: their places, their fields."""

import unittest

from dimhouse import errors
from dimhouse.errors import BadLine, DimError, Falls, NoLabel, Twice, Unknown

UNDER = (BadLine, Twice, NoLabel, Unknown, Falls)


class Places(unittest.TestCase):
    def test_dim_error_stands_right_under_value_error(self):
        self.assertEqual(DimError.__bases__, (ValueError,))

    def test_each_stands_right_under_dim_error(self):
        for one in UNDER:
            with self.subTest(one=one.__name__):
                self.assertEqual(one.__bases__, (DimError,))
                self.assertTrue(issubclass(one, ValueError))

    def test_none_stands_under_another(self):
        for one in UNDER:
            for other in UNDER:
                if one is not other:
                    self.assertFalse(issubclass(one, other), (one, other))

    def test_names(self):
        for name in ("DimError", "BadLine", "Twice", "NoLabel", "Unknown", "Falls"):
            self.assertEqual(getattr(errors, name).__name__, name)


class Fields(unittest.TestCase):
    def test_bad_line(self):
        self.assertEqual(BadLine(7).at, 7)
        self.assertEqual(BadLine(0).at, 0)

    def test_twice(self):
        self.assertEqual(Twice("abc").word, "abc")

    def test_no_label(self):
        self.assertEqual(NoLabel("r2").word, "r2")

    def test_unknown_has_word_then_row(self):
        error = Unknown("c", 3)
        self.assertEqual((error.word, error.row), ("c", 3))

    def test_falls(self):
        self.assertEqual(Falls(4).row, 4)

    def test_made_with_the_fields_alone(self):
        for made, fields in ((BadLine, 1), (Twice, 1), (NoLabel, 1), (Unknown, 2), (Falls, 1)):
            for count in range(4):
                with self.subTest(made=made.__name__, count=count):
                    if count == fields:
                        self.assertIsInstance(made(*([1] * count)), DimError)
                    else:
                        self.assertRaises(TypeError, made, *([1] * count))

    def test_two_errors_know_nothing_of_each_other(self):
        one = BadLine(1)
        other = BadLine(2)
        self.assertEqual((one.at, other.at), (1, 2))

    def test_taken_by_any_of_the_names_above(self):
        for error in (BadLine(0), Twice("a"), NoLabel("a"), Unknown("a", 0), Falls(0)):
            for above in (DimError, ValueError):
                with self.assertRaises(above) as taken:
                    raise error
                self.assertIs(taken.exception, error)


if __name__ == "__main__":
    unittest.main()
