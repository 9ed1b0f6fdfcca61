import unittest

from blockcover import errors


class ErrorsTest(unittest.TestCase):
    def test_cover_error_is_a_value_error(self):
        self.assertEqual(errors.CoverError.__bases__, (ValueError,))

    def test_the_others_stand_straight_under_it(self):
        for name in ("BadTable", "BadCell", "BadBlock", "BadCount", "TooGreat"):
            with self.subTest(name):
                self.assertEqual(getattr(errors, name).__bases__, (errors.CoverError,))

    def test_they_are_raised_and_caught(self):
        for name in ("BadTable", "BadCell", "BadBlock", "BadCount", "TooGreat"):
            with self.subTest(name), self.assertRaises(errors.CoverError) as caught:
                raise getattr(errors, name)("why")
            self.assertEqual(str(caught.exception), "why")
