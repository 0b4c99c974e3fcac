import unittest

from hallclock import errors

WITH_SPOT = (errors.BadSign, errors.BadText)
WITH_WORD = (errors.BadName, errors.BadNumber, errors.BadRing, errors.BadLoan)
BARE = (errors.TooMany, errors.NoDoor, errors.BadChange, errors.BadKept)


class ErrorsTest(unittest.TestCase):
    def test_hall_error_is_a_value_error(self):
        self.assertEqual(errors.HallError.__bases__, (ValueError,))

    def test_each_refusal_stands_straight_under_hall_error(self):
        for refusal in WITH_SPOT + WITH_WORD + BARE:
            with self.subTest(refusal=refusal.__name__):
                self.assertEqual(refusal.__bases__, (errors.HallError,))
                self.assertEqual(refusal.__subclasses__(), [])

    def test_there_are_ten_refusals_and_no_more(self):
        names = sorted(refusal.__name__ for refusal in errors.HallError.__subclasses__())
        self.assertEqual(names, [
            "BadChange", "BadKept", "BadLoan", "BadName", "BadNumber", "BadRing", "BadSign", "BadText",
            "NoDoor", "TooMany",
        ])

    def test_spot_is_the_number_of_which_one_is_made(self):
        for refusal in WITH_SPOT:
            for spot in (0, 1, 5999):
                with self.subTest(refusal=refusal.__name__, spot=spot):
                    made = refusal(spot)
                    self.assertEqual(made.spot, spot)
                    self.assertIs(type(made.spot), int)

    def test_word_is_the_text_of_which_one_is_made(self):
        for refusal in WITH_WORD:
            for word in ("till", "", "then"):
                with self.subTest(refusal=refusal.__name__, word=word):
                    self.assertEqual(refusal(word).word, word)

    def test_each_is_caught_as_a_value_error_with_its_field(self):
        for refusal in WITH_SPOT:
            with self.subTest(refusal=refusal.__name__), self.assertRaises(ValueError) as caught:
                raise refusal(7)
            self.assertEqual(caught.exception.spot, 7)
        for refusal in WITH_WORD:
            with self.subTest(refusal=refusal.__name__), self.assertRaises(ValueError) as caught:
                raise refusal("till")
            self.assertEqual(caught.exception.word, "till")
        for refusal in BARE:
            with self.subTest(refusal=refusal.__name__), self.assertRaises(errors.HallError):
                raise refusal("anything")

    def test_those_without_a_field_are_made_of_nothing(self):
        for refusal in BARE:
            with self.subTest(refusal=refusal.__name__):
                self.assertIsInstance(refusal(), errors.HallError)


if __name__ == "__main__":
    unittest.main()
