"""The refusals, as the interface lists them."""

import unittest

from knowcards import errors
from knowcards.errors import CardError, NoHand, NoPack, NoRow, NoSaying, TooMany

REFUSALS = (NoPack, TooMany, NoSaying, NoHand, NoRow)


class ErrorsTest(unittest.TestCase):
    def test_every_refusal_is_a_card_error_and_a_value_error(self):
        self.assertTrue(issubclass(CardError, ValueError))
        for refusal in REFUSALS:
            self.assertTrue(issubclass(refusal, CardError), refusal)
            self.assertTrue(issubclass(refusal, ValueError), refusal)

    def test_none_stands_under_another(self):
        for one in REFUSALS:
            for other in REFUSALS:
                if one is not other:
                    self.assertFalse(issubclass(one, other), (one, other))
            self.assertFalse(issubclass(CardError, one), one)

    def test_they_stand_in_their_module_under_their_names(self):
        for refusal in REFUSALS + (CardError,):
            self.assertIs(getattr(errors, refusal.__name__), refusal)
            self.assertEqual(refusal.__module__, "knowcards.errors")

    def test_each_can_be_raised_with_words_and_taken_as_a_card_error(self):
        for refusal in REFUSALS:
            with self.assertRaises(CardError) as taken:
                raise refusal("words")
            self.assertIs(type(taken.exception), refusal)
            self.assertEqual(str(taken.exception), "words")


if __name__ == "__main__":
    unittest.main()
