import unittest

from bridgeties.errors import BadBounds, BadLaying, BadSea, SeaError

REFUSALS = (BadSea, BadLaying, BadBounds)


class ErrorClasses(unittest.TestCase):
    def test_sea_error_is_a_value_error(self):
        self.assertTrue(issubclass(SeaError, ValueError))
        self.assertIsNot(SeaError, ValueError)

    def test_each_refusal_is_a_sea_error_of_its_own(self):
        for refusal in REFUSALS:
            with self.subTest(refusal=refusal.__name__):
                self.assertTrue(issubclass(refusal, SeaError))
                self.assertIsNot(refusal, SeaError)

    def test_no_refusal_is_under_another(self):
        for refusal in REFUSALS:
            for other in REFUSALS:
                if refusal is not other:
                    with self.subTest(refusal=refusal.__name__, other=other.__name__):
                        self.assertFalse(issubclass(refusal, other))

    def test_each_is_raised_with_words_and_taken_as_any_above_it(self):
        for refusal in (SeaError,) + REFUSALS:
            for taken in (refusal, SeaError, ValueError):
                with self.subTest(refusal=refusal.__name__, taken=taken.__name__):
                    with self.assertRaises(taken) as caught:
                        raise refusal("some words")
                    self.assertEqual(str(caught.exception), "some words")

    def test_names(self):
        names = [refusal.__name__ for refusal in (SeaError,) + REFUSALS]
        self.assertEqual(names, ["SeaError", "BadSea", "BadLaying", "BadBounds"])


if __name__ == "__main__":
    unittest.main()
