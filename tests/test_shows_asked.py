import unittest

from asks import COUNTED, HALVES, NOT_FOUND, least_within, mixed_questions, shows, singles
from faultwood.asking import least_asked, shows_asked
from things import Alike, no_numbers, no_texts, places_in, refusal, with_place

MANY = ("many",)

# Four parts of which three are asked by themselves: two questions can't do.
SINGLES = (1, 2, 4)
SHOWN = ("cases", ((0, 0, MANY), (1, 0, MANY), (2, 0, MANY)))


def things_of_any_kind():
    """Tell things that show nothing, whatever they are asked of."""
    return no_texts() + [
        "", "many", "alike", "cases", ["many"], (MANY,), ("MANY",), ("Many",), ("many", 1), ("many", None, None),
        (b"many",), {"many": 1}, ("dear",), ("high",), ("cases",), ("cases", ()), ("cases", (), ()), ("alike",),
        ("alike", 0), ("alike", 0, 1, 2), ("alike", (0, 1)), ("cases", None), ("cases", [SHOWN[1]]), ["cases", SHOWN[1]],
        ("cases", list(SHOWN[1])), ("cases", 0, SHOWN[1]), Alike(), (Alike(),), (Alike(), Alike()),
        (Alike(), Alike(), Alike()), ("cases", Alike()), ("alike", Alike(), Alike()), ((((((),),),),),),
    ]


class WhatIsTold(unittest.TestCase):
    def test_what_least_asked_tells(self):
        for many, questions, count in COUNTED:
            if count:
                shown = least_asked(many, questions)[2]
                with self.subTest(many=many, questions=questions):
                    for fewer in range(count):
                        self.assertIs(shows_asked(many, questions, fewer, shown),
                                      shows(questions, set(range(many)), fewer, shown))
                    self.assertIs(shows_asked(many, questions, count - 1, shown), True)
                    for more in (count, count + 1, 10 ** 300):
                        self.assertIs(shows_asked(many, questions, more, shown), False)


class Many(unittest.TestCase):
    def test_just_as_many_and_one_more(self):
        for many in range(1, 13):
            for count in range(6):
                with self.subTest(many=many, count=count):
                    self.assertIs(shows_asked(many, (1,), count, MANY), many > 2 ** count)

    def test_great_counts(self):
        for count in (63, 64, 1000, 10 ** 30, 10 ** 399):
            self.assertIs(shows_asked(12, (1,), count, MANY), False)

    def test_of_a_lesser_set(self):
        for shown, wanted in ((SHOWN, True), (("cases", ((0, 1, MANY),) + SHOWN[1][1:]), False)):
            self.assertIs(shows_asked(4, SINGLES, 2, shown), wanted)
        self.assertIs(shows_asked(5, singles(5), 3, MANY), False)


class AreAlike(unittest.TestCase):
    def test_parts_that_no_question_parts(self):
        for count in (0, 1, 2, 12, 10 ** 300):
            self.assertIs(shows_asked(4, (1, 2), count, ("alike", 2, 3)), True)
            self.assertIs(shows_asked(4, (3,), count, ("alike", 0, 1)), True)
            self.assertIs(shows_asked(12, (0, 4095), count, ("alike", 0, 11)), True)

    def test_all_pairs(self):
        for many, questions in NOT_FOUND:
            for i in range(-1, many + 1):
                for j in range(-1, many + 1):
                    wanted = 0 <= i < j < many and all(asked >> i & 1 == asked >> j & 1 for asked in questions)
                    with self.subTest(many=many, questions=questions, i=i, j=j):
                        self.assertIs(shows_asked(many, questions, 3, ("alike", i, j)), wanted)

    def test_exchanged_alike_and_parted(self):
        for i, j in ((3, 2), (2, 2), (3, 3), (0, 1), (1, 2), (0, 3), (2, 4), (4, 5), (-1, 2), (-2, -1), (True, 2)):
            self.assertIs(shows_asked(4, (1, 2), 2, ("alike", i, j)), False)

    def test_truths_and_other_kinds(self):
        self.assertIs(shows_asked(3, (4,), 2, ("alike", 0, 1)), True)
        for i, j in ((False, 1), (0, True), (False, True), ("0", 1), (0, "1"), (None, 1), ((0,), 1), (0, [1])):
            self.assertIs(shows_asked(3, (4,), 2, ("alike", i, j)), False)

    def test_of_a_lesser_set(self):
        # Among the parts of question 0 are 0 and 1, among all others 2 and 3.
        questions = (0b0011,)
        for side, pair, wanted in ((1, (0, 1), True), (0, (2, 3), True), (1, (2, 3), False), (0, (0, 1), False)):
            shown = ("cases", ((0, side, ("alike", *pair)),))
            self.assertIs(shows_asked(4, questions, 3, shown), wanted)


class Cases(unittest.TestCase):
    def assert_none(self, shown, count=2):
        with self.subTest(shown=repr(shown)):
            self.assertIs(shows_asked(4, SINGLES, count, shown), False)

    def test_good_ones(self):
        self.assertIs(shows_asked(4, SINGLES, 2, SHOWN), True)
        self.assertIs(shows_asked(4, SINGLES, 3, SHOWN), False)

    def test_no_question_left(self):
        shown = ("cases", ((0, 0, MANY), (1, 0, MANY), (2, 0, MANY)))
        self.assertIs(shows_asked(4, SINGLES, 0, shown), False)
        self.assertIs(shows_asked(4, SINGLES, 1, shown), True)
        self.assertIs(shows_asked(4, SINGLES, 1, ("cases", ((0, 0, shown), *SHOWN[1][1:]))), False)
        for shown in (("cases", ((0, 0, MANY), (1, 0, MANY))), ("cases", ((0, 0, SHOWN),))):
            self.assertIs(shows_asked(2, (1,), 0, shown), False)

    def test_branches_lacking_doubled_or_in_another_order(self):
        zero, one, two = SHOWN[1]
        for branches in (
            (), (zero,), (zero, one), (one, two), (zero, two), (zero, one, one), (zero, zero, two), (zero, one, two, two),
            (zero, zero, one, two), (two, one, zero), (one, zero, two), (zero, two, one), (zero, one, (3, 0, MANY)),
            (zero, one, two, (3, 0, MANY)), ((-1, 0, MANY), zero, one, two),
        ):
            self.assert_none(("cases", branches))

    def test_a_question_that_does_not_part_the_set(self):
        shown = least_asked(4, (1, 2, 4, 15, 0))[2]
        self.assertEqual([branch[0] for branch in shown[1]], [0, 1, 2])
        self.assertIs(shows_asked(4, (1, 2, 4, 15, 0), 2, SHOWN), True)
        for q in (3, 4):
            for side in (0, 1):
                told = ("cases", SHOWN[1] + ((q, side, MANY),))
                self.assertIs(shows_asked(4, (1, 2, 4, 15, 0), 2, told), False)
        # Behind question 0 its own parts are parted no more.
        within = ("cases", ((1, 0, MANY), (2, 0, MANY)))
        self.assertIs(shows_asked(4, SINGLES, 2, ("cases", ((0, 0, within), *SHOWN[1][1:]))), True)
        within = ("cases", ((0, 0, MANY), (1, 0, MANY), (2, 0, MANY)))
        self.assert_none(("cases", ((0, 0, within), *SHOWN[1][1:])))

    def test_no_question_that_parts_the_set(self):
        self.assertIs(shows_asked(2, (0, 3), 2, ("cases", ())), False)
        self.assertIs(shows_asked(1, (0, 1), 2, ("cases", ())), False)
        self.assertIs(shows_asked(1, (0, 1), 2, ("cases", ((1, 1, MANY),))), False)

    def test_sides(self):
        zero, one, two = SHOWN[1]
        for side in (1, 2, -1, True, False, None, "0", (0,), 10 ** 30, Alike()):
            self.assert_none(("cases", ((0, side, MANY), one, two)))
        shown = least_asked(4, (14, 13, 11))[2]
        self.assertEqual([branch[:2] for branch in shown[1]], [(0, 1), (1, 1), (2, 1)])
        for side, wanted in ((1, True), (True, False), (0, False)):
            told = ("cases", ((0, side, MANY), *shown[1][1:]))
            self.assertIs(shows_asked(4, (14, 13, 11), 2, told), wanted)

    def test_numbers_of_questions(self):
        zero, one, two = SHOWN[1]
        for q in [*no_numbers(), 1, 2]:
            self.assert_none(("cases", ((q, 0, MANY), one, two)))
        self.assert_none(("cases", (zero, (True, 0, MANY), two)))

    def test_lists_for_tuples_words_and_lengths(self):
        zero, one, two = SHOWN[1]
        for shown in (
            ["cases", SHOWN[1]], ("cases", [zero, one, two]), ("cases", ([0, 0, MANY], one, two)),
            ("cases", ((0, 0, ["many"]), one, two)), ("case", SHOWN[1]), ("CASES", SHOWN[1]), ("cases", *SHOWN[1]),
            ("cases", SHOWN[1], ()), ("cases", 0, SHOWN[1]), ("cases", ((0, 0), one, two)), ("many", SHOWN[1]),
            ("cases", ((0, 0, MANY, MANY), one, two)), ("cases", ((0, MANY), one, two)), ("cases", (MANY, one, two)),
            ("cases", ((0, MANY, 0), one, two)), ("alike", SHOWN[1]), ("cases", dict.fromkeys(SHOWN[1])),
        ):
            self.assert_none(shown)


class Anything(unittest.TestCase):
    def test_anything_else(self):
        for shown in things_of_any_kind():
            for count in (0, 1, 2, 3, 10 ** 30):
                with self.subTest(shown=repr(shown), count=count):
                    self.assertIs(shows_asked(4, SINGLES, count, shown), False)
                    self.assertIs(shows_asked(12, (1, 2), count, shown), False)

    def test_anything_else_at_any_place(self):
        for place in places_in(SHOWN):
            for thing in things_of_any_kind() + [0, 1, 2, 3, MANY, SHOWN, ("alike", 0, 1), SHOWN[1], SHOWN[1][0]]:
                shown = with_place(SHOWN, place, thing)
                with self.subTest(shown=repr(shown)):
                    wanted = shows(SINGLES, {0, 1, 2, 3}, 2, shown)
                    self.assertIs(shows_asked(4, SINGLES, 2, shown), wanted)

    def test_changed_ones(self):
        for many, questions in ((5, singles(5)), (4, (1, 3, 5, 12)), (6, (7, 11, 21, 32))):
            count, _, shown = least_asked(many, questions)
            for place in places_in(shown):
                for thing in (0, 1, 2, MANY, ("alike", 2, 3), ("cases", ((0, 1, MANY),)), True, None):
                    told = with_place(shown, place, thing)
                    with self.subTest(told=repr(told)):
                        wanted = shows(questions, set(range(many)), count - 1, told)
                        self.assertIs(shows_asked(many, questions, count - 1, told), wanted)

    def test_nothing_shows_what_is_not_so(self):
        for many, questions in mixed_questions(120):
            count = least_within(frozenset(range(many)), questions)
            if count:
                shown = least_asked(many, questions)[2]
                for other in (MANY, SHOWN, shown, ("cases", ((0, 0, shown),)), ("cases", ((0, 1, shown),))):
                    self.assertIs(shows_asked(many, questions, count, other), False)

    def test_deep_things(self):
        deep = ()
        for _ in range(45):
            deep = (deep,)
        cases = MANY
        for _ in range(15):
            cases = ("cases", ((0, 1, cases),))
        for shown in (deep, cases):
            self.assertIs(shows_asked(4, SINGLES, 20, shown), False)

    def test_what_is_handed_in_stays_as_it_was(self):
        shown = ["cases", [[0, 0, ["many"]], {1: 2}]]
        self.assertIs(shows_asked(4, SINGLES, 2, shown), False)
        self.assertEqual(shown, ["cases", [[0, 0, ["many"]], {1: 2}]])


class Counts(unittest.TestCase):
    def test_what_is_no_count(self):
        for count in no_numbers():
            for shown in (SHOWN, MANY, None, 3, [1]):
                with self.subTest(count=repr(count)):
                    self.assertEqual(refusal(shows_asked, 4, SINGLES, count, shown), ("BadSets",))
                    self.assertEqual(refusal(shows_asked, 8, HALVES, count, shown), ("BadSets",))
        for count in (0, 1, 10 ** 300):
            self.assertIsNone(refusal(shows_asked, 4, SINGLES, count, SHOWN))


if __name__ == "__main__":
    unittest.main()
