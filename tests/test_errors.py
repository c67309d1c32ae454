"""The classes of refusals: what each stands under."""

import unittest

from latehouse import errors
from latehouse.errors import (
    BadCount, BadHouse, BadRow, BadWord, Forged, HouseError, NoLetter, NotWritten, NoText,
)

REFUSALS = [BadCount, BadHouse, BadRow, BadWord, Forged, NoLetter, NotWritten, NoText]
NAMES = ["BadCount", "BadHouse", "BadRow", "BadWord", "Forged", "NoLetter", "NotWritten", "NoText"]


class ErrorsTest(unittest.TestCase):
    def test_house_error_stands_straight_under_value_error(self):
        self.assertEqual(HouseError.__bases__, (ValueError,))

    def test_each_refusal_stands_straight_under_house_error(self):
        for refusal in REFUSALS:
            with self.subTest(refusal=refusal.__name__):
                self.assertEqual(refusal.__bases__, (HouseError,))

    def test_none_stands_under_another(self):
        for one in REFUSALS:
            for other in REFUSALS:
                with self.subTest(one=one.__name__, other=other.__name__):
                    self.assertEqual(issubclass(one, other), one is other)

    def test_each_is_defined_here_under_its_name(self):
        for name in ["HouseError", *NAMES]:
            with self.subTest(name=name):
                self.assertEqual(getattr(errors, name).__name__, name)
                self.assertEqual(getattr(errors, name).__module__, "latehouse.errors")
        self.assertEqual([refusal.__name__ for refusal in REFUSALS], NAMES)

    def test_each_is_caught_as_any_refusal(self):
        for refusal in REFUSALS:
            for wider in (refusal, HouseError, ValueError):
                with self.subTest(refusal=refusal.__name__, wider=wider.__name__):
                    with self.assertRaises(wider):
                        raise refusal("refused")


if __name__ == "__main__":
    unittest.main()
