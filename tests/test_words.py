import unittest

from hallclock.errors import BadSign, HallError
from hallclock.words import TOLD, is_name, words

TOLD_WORDS = (
    "pool holds door rank at draws upto gaps to from then way takes desk hands ranked rests gate opens for "
    "below fork by turns number least lend of give exit change"
).split()
LETTERS = "abcdefghijklmnopqrstuvwxyz"
FIGURES = "0123456789"


class WordsTest(unittest.TestCase):
    def refused_at(self, text, spot):
        with self.subTest(text=text if isinstance(text, str) and len(text) < 60 else type(text).__name__):
            with self.assertRaises(BadSign) as caught:
                words(text)
            self.assertEqual(caught.exception.spot, spot)
            self.assertIs(type(caught.exception.spot), int)

    def told(self, text, wanted):
        with self.subTest(text=text):
            self.assertEqual(words(text), wanted)

    def test_each_sort_of_word(self):
        self.told("pool", ["pool"])
        self.told("till", ["till"])
        self.told("12", ["12"])
        self.told(".", ["."])
        self.told(",", [","])
        for sign in LETTERS + FIGURES:
            self.told(sign, [sign])
        for word in TOLD_WORDS:
            self.told(word, [word])

    def test_a_statement(self):
        self.told("desk till hands 2 takes 3 4 ranked rests 5 to 9, 20 to 30 then out.", [
            "desk", "till", "hands", "2", "takes", "3", "4", "ranked", "rests", "5", "to", "9", ",", "20", "to",
            "30", "then", "out", ".",
        ])

    def test_blanks_and_line_ends_part_words_and_mean_nothing_else(self):
        self.told("a b", ["a", "b"])
        self.told("a\nb", ["a", "b"])
        self.told("\n  a \n\n 12  \n 13 .\n", ["a", "12", "13", "."])
        self.told("1 2", ["1", "2"])
        self.told("1\n2", ["1", "2"])
        self.told(" a", ["a"])
        self.told("a ", ["a"])
        self.told("\na\n", ["a"])

    def test_nothing_between(self):
        self.told("exit a.exit b.", ["exit", "a", ".", "exit", "b", "."])
        self.told("..,,.", [".", ".", ",", ",", "."])
        self.told("1,2", ["1", ",", "2"])
        self.told("a,b", ["a", ",", "b"])

    def test_letters_and_figures_side_by_side_are_two_words(self):
        self.told("a1", ["a", "1"])
        self.told("1a", ["1", "a"])
        self.told("0a0", ["0", "a", "0"])
        self.told("abcdefgh1234ijklmnop", ["abcdefgh", "1234", "ijklmnop"])

    def test_no_words(self):
        self.told("", [])
        self.told(" ", [])
        self.told("\n", [])
        self.told(" \n \n", [])

    def test_how_many_letters(self):
        self.told("abcdefgh", ["abcdefgh"])
        self.refused_at("abcdefghi", 0)
        self.refused_at("exit abcdefghi.", 5)
        self.refused_at("abc1abcdefghi", 4)
        self.told("abcdefgh abcdefgh", ["abcdefgh", "abcdefgh"])

    def test_how_many_figures(self):
        self.told("1234", ["1234"])
        self.told("9999", ["9999"])
        self.told("1000", ["1000"])
        self.refused_at("12345", 0)
        self.refused_at("a 12345", 2)
        self.refused_at("a12345", 1)

    def test_a_first_figure_0(self):
        self.told("0", ["0"])
        self.told("10", ["10"])
        self.told("0 0", ["0", "0"])
        self.told("0,0", ["0", ",", "0"])
        self.refused_at("00", 0)
        self.refused_at("01", 0)
        self.refused_at("0000", 0)
        self.refused_at("at 5 007", 5)
        self.refused_at("a01", 1)

    def test_signs_in_no_word(self):
        allowed = LETTERS + FIGURES + "., \n"
        for place in range(0, 127):
            sign = chr(place)
            if sign in allowed or sign == "%":
                continue
            self.refused_at(sign, 0)
            self.refused_at("exit a" + sign, 6)
            self.refused_at("exit " + sign + "a.", 5)
            self.refused_at("1" + sign + "1", 1)

    def test_a_capital_letter_ends_a_row(self):
        self.refused_at("aB", 1)
        self.refused_at("Exit a.", 0)
        self.refused_at("abcdefgh1B", 9)

    def test_a_tab_and_a_carriage_return_part_no_words(self):
        self.refused_at("a\tb", 1)
        self.refused_at("a\r\nb", 1)

    def test_the_first_wrong_place_is_told(self):
        self.refused_at("A abcdefghi", 0)
        self.refused_at("abcdefghi A", 0)
        self.refused_at("abcdefghiA", 0)
        self.refused_at("ok 01 A 12345", 3)
        self.refused_at("ok 1 ; 12345", 5)
        self.refused_at("a\n\n;", 3)

    def test_how_long_a_text_is(self):
        self.assertEqual(words("a " * 3000), ["a"] * 3000)
        self.assertEqual(words("." * 6000), ["."] * 6000)
        self.assertEqual(words(" " * 6000), [])
        self.refused_at("." * 6001, 0)
        self.refused_at("a " * 3000 + "\n", 0)
        self.refused_at(" " * 6001, 0)
        self.refused_at(" " * 5999 + "A", 5999)
        self.refused_at(" " * 6000 + "A", 0)
        self.refused_at("ok A" + " " * 6000, 0)
        self.refused_at("a" * 6000, 0)

    def test_what_is_no_str(self):
        for other in (None, 0, 12, True, b"exit a.", ["exit", "a", "."], ("a",), {"a": 1}, [], object()):
            self.refused_at(other, 0)

    def test_bad_sign_is_a_hall_error_and_a_value_error(self):
        with self.assertRaises(HallError):
            words("A")
        with self.assertRaises(ValueError):
            words("A")

    def test_the_list_is_the_askers_own(self):
        text = "exit a."
        first = words(text)
        first.append("more")
        first[0] = "other"
        self.assertEqual(words(text), ["exit", "a", "."])

    def test_a_refused_list_is_not_changed(self):
        handed = ["exit", "a"]
        self.refused_at(handed, 0)
        self.assertEqual(handed, ["exit", "a"])


class NamesTest(unittest.TestCase):
    def test_told_words_are_a_tuple(self):
        self.assertIs(type(TOLD), tuple)
        self.assertEqual(list(TOLD), TOLD_WORDS)

    def test_names(self):
        for word in ("a", "z", "till", "abcdefgh", "pools", "doo", "a" * 8, "none", "enters", "v"):
            with self.subTest(word=word):
                self.assertIs(is_name(word), True)

    def test_told_words_are_no_names(self):
        for word in TOLD_WORDS:
            with self.subTest(word=word):
                self.assertIs(is_name(word), False)

    def test_what_else_is_no_name(self):
        others = (
            "", "0", "12", "1234", ".", ",", " ", "\n", "abcdefghi", "a" * 7000, "Till", "tilL", "till ", " till",
            "till\n", "\ntill", "till.", "till1", "1till", "ti ll", "till,", "a-b", "a_b", "%", "\u00e4", "\u00b2",
        )
        for word in others:
            with self.subTest(word=word[:20]):
                self.assertIs(is_name(word), False)


if __name__ == "__main__":
    unittest.main()
