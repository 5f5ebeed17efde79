"""The refusals' classes, as the interface tells them."""

import unittest

from coverpieces.errors import CoverError, NoLaying, NoNumber, NoPuzzle, NoText

REFUSALS = (NoText, NoPuzzle, NoLaying, NoNumber)


class ErrorsTest(unittest.TestCase):
    def test_any_refusal(self):
        self.assertTrue(issubclass(CoverError, ValueError))
        for refusal in REFUSALS:
            self.assertTrue(issubclass(refusal, CoverError), refusal)
            self.assertIsNot(refusal, CoverError)

    def test_none_under_another(self):
        for one in REFUSALS:
            for other in REFUSALS:
                self.assertIs(issubclass(one, other), one is other, (one, other))

    def test_raised_with_words_and_without(self):
        for refusal in REFUSALS:
            with self.assertRaises(CoverError):
                raise refusal("words")
            with self.assertRaises(ValueError):
                raise refusal()


if __name__ == "__main__":
    unittest.main()
