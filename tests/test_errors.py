"""Point [4]: every refusal is a class of its own straight under TallyError."""

import unittest

from tallyweb import errors
from tallyweb.errors import (
    BadNumber, BadTally, BadWeb, NoExchange, NoPlace, NoText, NoWeb, TallyError, TooMany, Unlike,
)

REFUSALS = (BadWeb, BadTally, NoPlace, BadNumber, NoWeb, NoExchange, Unlike, TooMany, NoText)


class Errors(unittest.TestCase):
    def test_all_errors_stand_under_value_error(self):
        self.assertEqual(TallyError.__bases__, (ValueError,))

    def test_each_refusal_stands_straight_under_tally_error(self):
        for refusal in REFUSALS:
            with self.subTest(refusal=refusal.__name__):
                self.assertEqual(refusal.__bases__, (TallyError,))

    def test_the_nine_are_unlike_and_none_stands_under_another(self):
        self.assertEqual(len(set(REFUSALS)), 9)
        for one in REFUSALS:
            for other in REFUSALS:
                if one is not other:
                    with self.subTest(one=one.__name__, other=other.__name__):
                        self.assertFalse(issubclass(one, other))

    def test_each_goes_by_its_own_name(self):
        for refusal in REFUSALS + (TallyError,):
            self.assertIs(getattr(errors, refusal.__name__), refusal)

    def test_each_is_made_of_one_text(self):
        for refusal in REFUSALS + (TallyError,):
            with self.subTest(refusal=refusal.__name__):
                self.assertEqual(str(refusal("some words")), "some words")

    def test_each_is_caught_as_itself_as_tally_error_and_as_value_error(self):
        for refusal in REFUSALS:
            for caught in (refusal, TallyError, ValueError):
                with self.subTest(refusal=refusal.__name__, caught=caught.__name__):
                    with self.assertRaises(caught):
                        raise refusal("some words")


if __name__ == "__main__":
    unittest.main()
