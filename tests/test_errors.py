"""The interface of parleyhall/errors.py."""

import unittest

from parleyhall import errors
from parleyhall.errors import NoNumber, NoRow, NoStep, NotRead, Over, ParleyError

REFUSALS = (NotRead, NoRow, NoNumber, NoStep, Over)


class Errors(unittest.TestCase):
    def test_parley_error_stands_under_value_error(self):
        self.assertEqual(ParleyError.__bases__, (ValueError,))

    def test_each_refusal_stands_under_parley_error_alone(self):
        for refusal in REFUSALS:
            with self.subTest(refusal=refusal.__name__):
                self.assertEqual(refusal.__bases__, (ParleyError,))

    def test_no_refusal_stands_under_another(self):
        for one in REFUSALS:
            for other in REFUSALS:
                if one is not other:
                    with self.subTest(one=one.__name__, other=other.__name__):
                        self.assertFalse(issubclass(one, other))

    def test_each_bears_its_name(self):
        for name in ("ParleyError", "NotRead", "NoRow", "NoNumber", "NoStep", "Over"):
            with self.subTest(name=name):
                self.assertEqual(getattr(errors, name).__name__, name)

    def test_each_can_be_raised_and_taken_as_any_refusal(self):
        for refusal in REFUSALS:
            with self.subTest(refusal=refusal.__name__):
                with self.assertRaises(ParleyError):
                    raise refusal("words")


if __name__ == "__main__":
    unittest.main()
