"""The refusals, as the interface lists them."""

import unittest

from manyleast import errors
from manyleast.errors import Beyond, LeastError, NoBounds, NoRow, NoSuch, NoText, TooMany

OTHERS = (NoSuch, NoBounds, TooMany, NoText, NoRow)


class Classes(unittest.TestCase):
    def test_least_error_is_straight_under_value_error(self):
        self.assertEqual(LeastError.__bases__, (ValueError,))

    def test_each_is_straight_under_least_error(self):
        for kind in (Beyond,) + OTHERS:
            self.assertEqual(kind.__bases__, (LeastError,), kind)

    def test_none_is_under_another(self):
        for kind in (Beyond,) + OTHERS:
            for other in (Beyond,) + OTHERS:
                self.assertEqual(issubclass(kind, other), kind is other)

    def test_names(self):
        for name in "LeastError Beyond NoSuch NoBounds TooMany NoText NoRow".split():
            self.assertEqual(getattr(errors, name).__name__, name)

    def test_others_are_raised_and_taken_as_least_error(self):
        for kind in OTHERS:
            with self.assertRaises(LeastError):
                raise kind("words")
            with self.assertRaises(kind):
                raise kind()


class BeyondNumber(unittest.TestCase):
    def test_field(self):
        for number in (0, 7, -7, 10 ** 50 - 1, -(10 ** 50) + 1, 10 ** 5000):
            self.assertEqual(Beyond(number).number, number)

    def test_each_object_has_its_own(self):
        one = Beyond(1)
        two = Beyond(2)
        self.assertEqual((one.number, two.number), (1, 2))

    def test_is_made_of_its_number_alone(self):
        with self.assertRaises(TypeError):
            Beyond()
        self.assertEqual(Beyond(number=5).number, 5)

    def test_its_words_can_be_shown(self):
        self.assertIsInstance(str(Beyond(10 ** 5000)), str)


if __name__ == "__main__":
    unittest.main()
