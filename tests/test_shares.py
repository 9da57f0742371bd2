import operator
import unittest
from fractions import Fraction

from faultwood import shares
from faultwood.shares import (
    figures_in, is_share, is_whole, less, minus, over, plus, share, share_in, share_text, times,
)
from things import no_texts, own_names, printable

NAMES = {
    "is_whole", "is_share", "share", "plus", "minus", "times", "over", "less", "share_text", "figures_in", "share_in",
}
GREAT = 10 ** 12 + 39


def some_shares():
    """Tell shares below, at and above nought, small ones and great ones."""
    small = {Fraction(number, parts) for number in range(-4, 5) for parts in range(1, 5)}
    great = {Fraction(GREAT, 7), Fraction(-5, GREAT), Fraction(GREAT, GREAT + 2), Fraction(3 ** 300, 2 ** 500)}
    return sorted(small | great)


def as_pair(fraction):
    return (fraction.numerator, fraction.denominator)


class File(unittest.TestCase):
    def test_it_defines_each_function(self):
        self.assertEqual(own_names(shares) & NAMES, NAMES)


class Whole(unittest.TestCase):
    def test_ints(self):
        for number in (0, 1, -1, 12, -10 ** 399, 10 ** 399):
            with self.subTest(number=number):
                self.assertIs(is_whole(number), True)

    def test_truths_are_none(self):
        self.assertIs(is_whole(True), False)
        self.assertIs(is_whole(False), False)

    def test_anything_else(self):
        for thing in [*no_texts(), "", "1", "a"]:
            if type(thing) is not int:
                with self.subTest(thing=repr(thing)):
                    self.assertIs(is_whole(thing), False)


class IsShare(unittest.TestCase):
    def test_shares(self):
        for pair in ((0, 1), (1, 1), (1, 2), (-1, 2), (7, 3), (-7, 1), (GREAT, GREAT + 1), (10 ** 399, 1)):
            with self.subTest(pair=pair):
                self.assertIs(is_share(pair), True)

    def test_not_in_lowest_terms(self):
        for pair in ((2, 4), (-2, 4), (3, 3), (0, 2), (0, GREAT), (6, 9), (2 * GREAT, 2 * GREAT + 2)):
            with self.subTest(pair=pair):
                self.assertIs(is_share(pair), False)

    def test_second_number_not_from_1_on(self):
        for pair in ((1, 0), (0, 0), (-1, 0), (2, 0), (1, -1), (0, -1), (1, -2), (-1, -2)):
            with self.subTest(pair=pair):
                self.assertIs(is_share(pair), False)

    def test_other_counts_of_numbers(self):
        for row in ((), (1,), (0,), (1, 2, 3), (0, 1, 1), (1, 1, None)):
            with self.subTest(row=row):
                self.assertIs(is_share(row), False)

    def test_truths_and_other_kinds_within(self):
        for thing in (True, False, None, "1", "", b"1", [], (1,), {}):
            for pair in ((thing, 1), (1, thing), (thing, thing)):
                with self.subTest(pair=pair):
                    self.assertIs(is_share(pair), False)

    def test_lists_are_none(self):
        for row in ([1, 2], [0, 1], [1, 1], [1], []):
            with self.subTest(row=row):
                self.assertIs(is_share(row), False)

    def test_anything_else(self):
        for thing in [*no_texts(), "", "1", "1/2", "12", "01"]:
            with self.subTest(thing=repr(thing)):
                self.assertIs(is_share(thing), False)

    def test_what_is_handed_in_stays_as_it_was(self):
        row = [2, 4]
        held = ([1, 2], {"a": [3]})
        table = {1: [2]}
        for thing in (row, held, table):
            self.assertIs(is_share(thing), False)
            self.assertIs(is_whole(thing), False)
        self.assertEqual((row, held, table), ([2, 4], ([1, 2], {"a": [3]}), {1: [2]}))


class Share(unittest.TestCase):
    def assert_share(self, told, wanted):
        self.assertEqual(told, wanted)
        self.assertIs(type(told), tuple)
        self.assertTrue(is_share(told))

    def test_lowest_terms(self):
        for number, parts, wanted in ((1, 2, (1, 2)), (2, 4, (1, 2)), (6, 4, (3, 2)), (9, 3, (3, 1)), (5, 5, (1, 1))):
            with self.subTest(number=number, parts=parts):
                self.assert_share(share(number, parts), wanted)

    def test_signs(self):
        for number, parts, wanted in (
            (1, -2, (-1, 2)), (-1, 2, (-1, 2)), (-1, -2, (1, 2)),
            (4, -6, (-2, 3)), (-4, 6, (-2, 3)), (-4, -6, (2, 3)), (3, -1, (-3, 1)), (-3, -3, (1, 1)),
        ):
            with self.subTest(number=number, parts=parts):
                self.assert_share(share(number, parts), wanted)

    def test_nought_whatever_the_divisor(self):
        for parts in (1, -1, 2, -2, 12, GREAT, -GREAT, 10 ** 399):
            with self.subTest(parts=parts):
                self.assert_share(share(0, parts), (0, 1))

    def test_great_numbers(self):
        self.assert_share(share(123456789012 * 6, 123456789012 * 4), (3, 2))
        self.assert_share(share(GREAT, -GREAT * GREAT), (-1, GREAT))
        self.assert_share(share(3 ** 200 * 10, 3 ** 200 * 4), (5, 2))
        self.assert_share(share(10 ** 40 + 1, 10 ** 40), (10 ** 40 + 1, 10 ** 40))

    def test_as_fractions_have_it(self):
        for number in range(-12, 13):
            for parts in (*range(-12, 0), *range(1, 13)):
                with self.subTest(number=number, parts=parts):
                    self.assert_share(share(number, parts), as_pair(Fraction(number, parts)))


class Reckoning(unittest.TestCase):
    def compare(self, told_by, wanted_by):
        for one in some_shares():
            for other in some_shares():
                if told_by is over and other == 0:
                    continue
                told = told_by(as_pair(one), as_pair(other))
                if told != as_pair(wanted_by(one, other)):
                    self.fail(f"{told_by.__name__} of {one} and {other} told {told}")
                self.assertIs(type(told), tuple)

    def test_plus(self):
        self.compare(plus, operator.add)

    def test_minus(self):
        self.compare(minus, operator.sub)

    def test_times(self):
        self.compare(times, operator.mul)

    def test_over(self):
        self.compare(over, operator.truediv)

    def test_some_by_hand(self):
        self.assertEqual(plus((1, 2), (1, 3)), (5, 6))
        self.assertEqual(plus((1, 6), (1, 3)), (1, 2))
        self.assertEqual(minus((1, 3), (1, 2)), (-1, 6))
        self.assertEqual(times((2, 3), (3, 4)), (1, 2))
        self.assertEqual(over((1, 3), (2, 3)), (1, 2))

    def test_shares_below_nought(self):
        self.assertEqual(plus((-1, 2), (-1, 3)), (-5, 6))
        self.assertEqual(plus((-1, 2), (1, 3)), (-1, 6))
        self.assertEqual(minus((-1, 2), (-1, 3)), (-1, 6))
        self.assertEqual(minus((1, 2), (-1, 2)), (1, 1))
        self.assertEqual(times((-1, 2), (-2, 3)), (1, 3))
        self.assertEqual(times((-1, 2), (2, 3)), (-1, 3))

    def test_over_by_a_share_below_nought(self):
        self.assertEqual(over((1, 2), (-1, 3)), (-3, 2))
        self.assertEqual(over((-1, 2), (-1, 3)), (3, 2))
        self.assertEqual(over((0, 1), (-5, 7)), (0, 1))

    def test_results_that_come_to_nought(self):
        self.assertEqual(plus((3, 7), (-3, 7)), (0, 1))
        self.assertEqual(plus((0, 1), (0, 1)), (0, 1))
        self.assertEqual(minus((3, 7), (3, 7)), (0, 1))
        self.assertEqual(minus((-3, 7), (-3, 7)), (0, 1))
        self.assertEqual(times((0, 1), (-3, 7)), (0, 1))
        self.assertEqual(times((-3, 7), (0, 1)), (0, 1))
        self.assertEqual(over((0, 1), (3, 7)), (0, 1))


class Less(unittest.TestCase):
    def test_as_fractions_have_it(self):
        for one in some_shares():
            for other in some_shares():
                with self.subTest(one=one, other=other):
                    self.assertIs(less(as_pair(one), as_pair(other)), one < other)

    def test_some_by_hand(self):
        for one, other in (
            ((1, 3), (1, 2)), ((-1, 2), (-1, 3)), ((-1, 2), (0, 1)), ((0, 1), (1, 9)), ((-1, 1), (1, 9)),
        ):
            with self.subTest(one=one, other=other):
                self.assertIs(less(one, other), True)
                self.assertIs(less(other, one), False)

    def test_a_share_and_itself(self):
        for one in some_shares():
            with self.subTest(one=one):
                self.assertIs(less(as_pair(one), as_pair(one)), False)


class FiguresIn(unittest.TestCase):
    def test_numbers_write_themselves(self):
        for number in (*range(1200), 10 ** 12, GREAT, 10 ** 50 + 1):
            with self.subTest(number=number):
                told = figures_in(str(number))
                self.assertEqual(told, number)
                self.assertIs(type(told), int)

    def test_nought_ahead(self):
        self.assertEqual(figures_in("0"), 0)
        for text in ("00", "01", "000", "007", "0" * 400, "0" + "1" * 399):
            with self.subTest(text=text):
                self.assertIsNone(figures_in(text))

    def test_how_many_figures(self):
        self.assertIsNone(figures_in(""))
        self.assertEqual(figures_in("9" * 399), 10 ** 399 - 1)
        self.assertEqual(figures_in("9" * 400), 10 ** 400 - 1)
        self.assertEqual(figures_in("1" + "0" * 399), 10 ** 399)
        self.assertIsNone(figures_in("9" * 401))
        self.assertIsNone(figures_in("1" + "0" * 400))
        self.assertIsNone(figures_in("1" * 500))

    def test_any_other_sign_ahead_within_and_behind(self):
        for sign in printable():
            if sign not in "0123456789":
                for text in (sign, sign + "12", "1" + sign + "2", "12" + sign, sign * 2):
                    with self.subTest(text=text):
                        self.assertIsNone(figures_in(text))

    def test_figures_of_other_scripts(self):
        for text in ("\u0663", "1\u0663", "\u00b2", "\uff11"):
            with self.subTest(text=text):
                self.assertIsNone(figures_in(text))


class ShareText(unittest.TestCase):
    def test_written(self):
        for one, text in (
            ((0, 1), "0/1"), ((1, 2), "1/2"), ((-1, 2), "-1/2"), ((12, 1), "12/1"), ((7, GREAT), f"7/{GREAT}"),
        ):
            with self.subTest(one=one):
                self.assertEqual(share_text(one), text)

    def test_there_and_back(self):
        for fraction in some_shares():
            one = as_pair(fraction)
            if fraction >= 0:
                with self.subTest(one=one):
                    self.assertEqual(share_in(share_text(one)), one)

    def test_back_and_there(self):
        for text in ("0/1", "1/1", "1/2", "41/1000", "9" * 400 + "/1", "1/" + "9" * 400):
            with self.subTest(text=text):
                self.assertEqual(share_text(share_in(text)), text)


class ShareIn(unittest.TestCase):
    def test_in_lowest_terms_or_not(self):
        for text, wanted in (
            ("1/2", (1, 2)), ("2/4", (1, 2)), ("0/7", (0, 1)), ("0/1", (0, 1)), ("7/7", (1, 1)), ("12/8", (3, 2)),
            ("5/1", (5, 1)), ("123456789012/246913578024", (1, 2)), ("6" * 400 + "/" + "3" * 400, (2, 1)),
        ):
            with self.subTest(text=text):
                told = share_in(text)
                self.assertEqual(told, wanted)
                self.assertIs(type(told), tuple)

    def test_no_shares(self):
        for text in (
            "1/0", "0/0", "01/2", "1/02", "00/2", "1/00", "1", "/", "1/", "/1", "1//2", "1/2/3", "1/2/", "/1/2",
            " 1/2", "1/2 ", "1 /2", "1/ 2", "\n1/2", "1/2\n", "1/\n2", "-1/2", "1/-2", "-1/-2", "+1/2", "1/+2",
            "", " ", "a", "a/b", "1/b", "a/2", "1.0/2", "1/2.0", "0.5", "1:2", "1_0/2", "1|2", "(1, 2)",
        ):
            with self.subTest(text=text):
                self.assertIsNone(share_in(text))

    def test_how_many_figures(self):
        self.assertEqual(share_in("1" + "0" * 399 + "/1"), (10 ** 399, 1))
        self.assertIsNone(share_in("1" + "0" * 400 + "/1"))
        self.assertIsNone(share_in("1/1" + "0" * 400))
        self.assertIsNone(share_in("/1" + "0" * 399))

    def test_any_other_sign(self):
        for sign in printable():
            if sign not in "0123456789":
                for text in (sign + "1/2", "1" + sign + "/2", "1/" + sign + "2", "1/2" + sign):
                    with self.subTest(text=text):
                        self.assertIsNone(share_in(text))

    def test_anything_else(self):
        for thing in [*no_texts(), (1, 2), (0, 1)]:
            with self.subTest(thing=repr(thing)):
                self.assertIsNone(share_in(thing))


if __name__ == "__main__":
    unittest.main()
