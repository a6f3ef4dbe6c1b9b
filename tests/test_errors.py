import copy
import unittest

from stripfold import errors

SIX = ["NoPile", "NoCrease", "NoLetters", "NoCount", "Stuck", "Crossing"]


class ErrorKinds(unittest.TestCase):
    def test_any_refusal_is_a_value_error(self):
        self.assertEqual(errors.StripError.__bases__, (ValueError,))

    def test_each_stands_straight_under_strip_error(self):
        for name in SIX:
            with self.subTest(name):
                self.assertEqual(getattr(errors, name).__bases__, (errors.StripError,))
                self.assertEqual(getattr(errors, name).__name__, name)

    def test_none_of_the_six_stands_under_another(self):
        for one in SIX:
            for other in SIX:
                with self.subTest(one=one, other=other):
                    under = issubclass(getattr(errors, one), getattr(errors, other))
                    self.assertEqual(under, one == other)

    def test_each_is_raised_and_taken_as_any_refusal(self):
        for name in SIX[:-1]:
            with self.subTest(name):
                with self.assertRaises(errors.StripError):
                    raise getattr(errors, name)("words")


class CrossingFields(unittest.TestCase):
    def test_fields(self):
        error = errors.Crossing(3, 7)
        self.assertEqual((error.one, error.other), (3, 7))
        self.assertIs(type(error.one), int)
        self.assertIs(type(error.other), int)

    def test_fields_are_each_objects_own(self):
        first = errors.Crossing(0, 2)
        errors.Crossing(1, 5)
        self.assertEqual((first.one, first.other), (0, 2))

    def test_raised_and_taken_as_any_refusal(self):
        with self.assertRaises(errors.StripError) as taken:
            raise errors.Crossing(1, 3)
        self.assertEqual((taken.exception.one, taken.exception.other), (1, 3))

    def test_a_copy_has_the_fields(self):
        twin = copy.copy(errors.Crossing(4, 98))
        self.assertEqual((twin.one, twin.other), (4, 98))


if __name__ == "__main__":
    unittest.main()
