import unittest

from faultwood import signs
from faultwood.signs import is_name, number_in, odds_in, words_of
from things import no_texts, own_names, printable

NAMES = {"is_name", "number_in", "odds_in", "words_of"}
LETTERS = "abcdefghijklmnopqrstuvwxyz"
FIGURES = "0123456789"
TAKEN = ("part", "better", "spare", "gate", "brings", "top", "all", "any")


class File(unittest.TestCase):
    def test_it_defines_each_function(self):
        self.assertEqual(own_names(signs) & NAMES, NAMES)


class IsName(unittest.TestCase):
    def test_how_many_signs(self):
        for text in ("a", "z", "ab", "pump", "pump12", "abcdefgh", "a1234567", "zzzzzzzz"):
            with self.subTest(text=text):
                self.assertIs(is_name(text), True)
        for text in ("", "abcdefghi", "a12345678", "a" * 400):
            with self.subTest(text=text):
                self.assertIs(is_name(text), False)

    def test_each_sign_first(self):
        for sign in printable():
            for behind in ("", "b", "1", "bcdefgh"):
                with self.subTest(text=sign + behind):
                    self.assertIs(is_name(sign + behind), sign in LETTERS)

    def test_each_sign_within_and_behind(self):
        for sign in printable():
            for text in ("p" + sign, "p" + sign + "q", "pqrstuv" + sign, "p" + sign + "1"):
                with self.subTest(text=text):
                    self.assertIs(is_name(text), sign in LETTERS + FIGURES)

    def test_taken_words(self):
        for word in TAKEN:
            with self.subTest(word=word):
                self.assertIs(is_name(word), False)

    def test_taken_words_with_a_sign_more_or_less(self):
        for word in TAKEN:
            for text in (word + "s", word + "1", "a" + word, word[:-1], word[1:]):
                with self.subTest(text=text):
                    self.assertIs(is_name(text), True)
            for text in (word.upper(), word.title(), word + " ", " " + word, word + "\n", word + "_"):
                with self.subTest(text=text):
                    self.assertIs(is_name(text), False)

    def test_other_words_of_the_document_are_names(self):
        for word in ("least", "part1", "none", "name", "odds", "cuts", "undo", "tops", "bring", "anyall"):
            with self.subTest(word=word):
                self.assertIs(is_name(word), True)

    def test_anything_else(self):
        for thing in [*no_texts(), ["p", "q"], ("p",), {"p": 1}, b"pump"]:
            with self.subTest(thing=repr(thing)):
                self.assertIs(is_name(thing), False)

    def test_what_is_handed_in_stays_as_it_was(self):
        row = ["p", ["q"]]
        self.assertIs(is_name(row), False)
        self.assertEqual(row, ["p", ["q"]])


class NumberIn(unittest.TestCase):
    def test_numbers_write_themselves(self):
        for number in (*range(1200), 12345, 999999, 1000000, 1000001, 1234567, 9999999):
            with self.subTest(number=number):
                told = number_in(str(number))
                self.assertEqual(told, number)
                self.assertIs(type(told), int)

    def test_nought_ahead(self):
        self.assertEqual(number_in("0"), 0)
        for word in ("00", "01", "007", "0000000", "0123456", "01234567"):
            with self.subTest(word=word):
                self.assertIsNone(number_in(word))

    def test_how_many_figures(self):
        self.assertIsNone(number_in(""))
        for figure in "123456789":
            self.assertEqual(number_in(figure), int(figure))
            self.assertEqual(number_in(figure * 7), int(figure * 7))
            self.assertIsNone(number_in(figure * 8))
        self.assertEqual(number_in("1000000"), 1000000)
        self.assertIsNone(number_in("10000000"))
        self.assertIsNone(number_in("9" * 400))

    def test_any_other_sign_ahead_within_and_behind(self):
        for sign in printable():
            if sign not in FIGURES:
                for word in (sign, sign + "12", "1" + sign + "2", "12" + sign, sign * 2):
                    with self.subTest(word=word):
                        self.assertIsNone(number_in(word))


class OddsIn(unittest.TestCase):
    def test_as_written(self):
        for word, wanted in (
            ("1/2", (1, 2)), ("2/4", (2, 4)), ("0/7", (0, 7)), ("7/0", (7, 0)), ("0/0", (0, 0)), ("5/3", (5, 3)),
            ("1000/1000", (1000, 1000)), ("1/1001", (1, 1001)), ("9999999/9999999", (9999999, 9999999)),
        ):
            with self.subTest(word=word):
                told = odds_in(word)
                self.assertEqual(told, wanted)
                self.assertIs(type(told), tuple)

    def test_bar_lacking_or_twice(self):
        for word in ("", "1", "12", "0", "1 2", "1:2", "1|2", "1//2", "1/2/3", "1/2/", "/1/2", "//"):
            with self.subTest(word=word):
                self.assertIsNone(odds_in(word))

    def test_a_side_that_is_no_number(self):
        for side in ("", "00", "01", "a", "-1", "+1", "1.0", " 1", "1 ", "\n1", "1\n", "12345678", "_", "#"):
            for word in (side + "/2", "1/" + side, side + "/" + side):
                with self.subTest(word=word):
                    self.assertIsNone(odds_in(word))


class WordsOf(unittest.TestCase):
    def assert_words(self, row, wanted):
        told = words_of(row)
        self.assertEqual(told, wanted)
        self.assertIs(type(told), list)

    def test_single_blanks(self):
        self.assert_words("part pump 1/2", ["part", "pump", "1/2"])
        self.assert_words("top", ["top"])

    def test_blanks_ahead_behind_and_doubled(self):
        for row in (" part pump 1/2", "part pump 1/2 ", "part  pump 1/2", "   part   pump    1/2  "):
            with self.subTest(row=row):
                self.assert_words(row, ["part", "pump", "1/2"])

    def test_a_remark(self):
        for row, wanted in (
            ("# part pump", []), ("#part pump", []), ("  # part", []),
            ("part # pump 1/2", ["part"]), ("part pump #1/2", ["part", "pump"]), ("part pump# 1/2", ["part", "pump"]),
            ("part pu#mp 1/2", ["part", "pu"]), ("part pump 1/2#", ["part", "pump", "1/2"]),
            ("part ## pump", ["part"]), ("part # pump # 1/2", ["part"]), ("part#pump#odds", ["part"]), ("## part", []),
        ):
            with self.subTest(row=row):
                self.assert_words(row, wanted)

    def test_no_words(self):
        for row in ("", " ", "     ", "#", "##", "# #", "#part", " # part 1/2 "):
            with self.subTest(row=row):
                self.assert_words(row, [])

    def test_words_whatever_they_are(self):
        words = ["PART", "01/0", "-3", "a/b/c", ",;.", "_", "abcdefghijkl"]
        self.assert_words("PART 01/0 -3 a/b/c ,;. _ abcdefghijkl", words)
        for sign in printable():
            if sign not in " #\n":
                with self.subTest(sign=sign):
                    self.assert_words(sign + " a" + sign + "b", [sign, "a" + sign + "b"])

    def test_told_anew_each_time(self):
        told = words_of("part pump 1/2")
        told.append("more")
        told[0] = "gate"
        self.assert_words("part pump 1/2", ["part", "pump", "1/2"])
        empty = words_of("# none")
        empty.append("more")
        self.assert_words("# none", [])


if __name__ == "__main__":
    unittest.main()
