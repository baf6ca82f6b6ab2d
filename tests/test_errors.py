import unittest

from sparsesum.errors import NoForm, NoNumber, NoStep, NoText, SparseError, TooLittle

FIVE = [NoNumber, NoForm, NoText, NoStep, TooLittle]


class ErrorsTest(unittest.TestCase):
    def test_any_refusal_is_a_value_error(self):
        self.assertTrue(issubclass(SparseError, ValueError))

    def test_each_of_the_five_is_a_refusal(self):
        for kind in FIVE:
            with self.subTest(kind=kind):
                self.assertTrue(issubclass(kind, SparseError))
                self.assertIsNot(kind, SparseError)

    def test_none_of_the_five_stands_under_another(self):
        for kind in FIVE:
            self.assertEqual([other for other in FIVE if issubclass(kind, other)], [kind])

    def test_names(self):
        names = [kind.__name__ for kind in [SparseError] + FIVE]
        self.assertEqual(names, ["SparseError", "NoNumber", "NoForm", "NoText", "NoStep", "TooLittle"])

    def test_each_can_be_raised_with_words_and_caught_as_a_refusal(self):
        for kind in [SparseError] + FIVE:
            with self.subTest(kind=kind):
                with self.assertRaises(SparseError) as caught:
                    raise kind("words")
                self.assertIs(type(caught.exception), kind)
                self.assertEqual(str(caught.exception), "words")


if __name__ == "__main__":
    unittest.main()
