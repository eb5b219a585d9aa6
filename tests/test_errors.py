import unittest

from twoline.errors import BadPoints, BadText, LineError, SamePoint

REFUSALS = (SamePoint, BadPoints, BadText)


class ErrorTests(unittest.TestCase):
    def test_line_error_is_a_value_error(self):
        self.assertTrue(issubclass(LineError, ValueError))

    def test_each_refusal_is_under_line_error(self):
        for refusal in REFUSALS:
            self.assertTrue(issubclass(refusal, LineError))
            self.assertIsNot(refusal, LineError)

    def test_no_refusal_is_under_another(self):
        for one in REFUSALS:
            for other in REFUSALS:
                self.assertEqual(issubclass(one, other), one is other)

    def test_names(self):
        names = [refusal.__name__ for refusal in (LineError,) + REFUSALS]
        self.assertEqual(names, ["LineError", "SamePoint", "BadPoints", "BadText"])

    def test_raised_with_words_and_taken_as_value_error(self):
        for refusal in (LineError,) + REFUSALS:
            with self.assertRaises(ValueError) as caught:
                raise refusal("words")
            self.assertIs(type(caught.exception), refusal)
            self.assertEqual(str(caught.exception), "words")


if __name__ == "__main__":
    unittest.main()
