import unittest

from asks import COUNTED, HALVES, NOT_FOUND, least_within, mixed_questions, singles, walk
from faultwood import asking
from faultwood.asking import asked_by, least_asked, shows_asked
from things import Alike, no_numbers, no_texts, own_names, refusal

NAMES = {"least_asked", "asked_by", "shows_asked"}
ENDS = tuple(("is", i) for i in range(4))

# Four parts, two questions that part them in halves.
FOUR = (0b1010, 0b1100)
TREE = ("ask", 1, ("ask", 0, ENDS[3], ENDS[2]), ("ask", 0, ENDS[1], ENDS[0]))


def wrong_counts_of_parts():
    return [*no_numbers(), 0, 13, 14, -1, -12, 10 ** 30, "4"]


def wrong_questions(many):
    """Tell things that are no questions about so many parts; made anew each time."""
    told = [list(FOUR), (), [], (1,) * 13, (0,) * 14, {0: 1}, "", "12", 1, Alike(), iter((1,)), ((1,),), ([1],)]
    told += [thing for thing in no_texts() if type(thing) is not tuple]
    for asked in [*no_numbers(), 2 ** many, 2 ** many + 1, 2 ** 40]:
        told += [(asked,), (1, asked), (asked, 1), (0,) * 11 + (asked,)]
    return told


class File(unittest.TestCase):
    def test_it_defines_each_function(self):
        self.assertEqual(own_names(asking) & NAMES, NAMES)


class LeastAsked(unittest.TestCase):
    def assert_least(self, many, questions, wanted):
        count, tree, shown = least_asked(many, questions)
        self.assertEqual(count, wanted)
        told = [walk(questions, tree, i) for i in range(many)]
        self.assertEqual([part for part, _ in told], list(range(many)))
        self.assertEqual(max(asked for _, asked in told), count)
        self.assertEqual([asked_by(many, questions, tree, i) for i in range(many)], told)
        if count == 0:
            self.assertIsNone(shown)
        else:
            self.assertIs(shows_asked(many, questions, count - 1, shown), True)
            self.assertIs(shows_asked(many, questions, count, shown), False)
        self.assertEqual(least_asked(many, questions), (count, tree, shown))

    def test_counted_ones(self):
        for many, questions, wanted in COUNTED:
            with self.subTest(many=many, questions=questions):
                self.assert_least(many, questions, wanted)

    def test_one_part(self):
        for questions in ((0,), (1,), (0, 1, 1)):
            self.assertEqual(least_asked(1, questions), (0, ("is", 0), None))

    def test_two_parts(self):
        self.assertEqual(least_asked(2, (1,)), (1, ("ask", 0, ("is", 0), ("is", 1)), ("many",)))
        self.assertEqual(least_asked(2, (2,)), (1, ("ask", 0, ("is", 1), ("is", 0)), ("many",)))

    def test_against_all_trees(self):
        found = 0
        for many, questions in mixed_questions(300):
            wanted = least_within(frozenset(range(many)), questions)
            with self.subTest(many=many, questions=questions):
                if wanted is None:
                    self.assertEqual(refusal(least_asked, many, questions), ("NoPlan",))
                else:
                    self.assert_least(many, questions, wanted)
                    found += 1
        self.assertGreater(found, 60)

    def test_all_questions_about_few_parts(self):
        for many in (2, 3):
            for one in range(2 ** many):
                for other in range(2 ** many):
                    wanted = least_within(frozenset(range(many)), (one, other))
                    if wanted is None:
                        self.assertEqual(refusal(least_asked, many, (one, other)), ("NoPlan",))
                    else:
                        self.assert_least(many, (one, other), wanted)

    def test_two_parts_that_no_question_parts(self):
        for many, questions in NOT_FOUND:
            with self.subTest(many=many, questions=questions):
                self.assertEqual(refusal(least_asked, many, questions), ("NoPlan",))

    def test_more_parts_or_questions(self):
        for many, questions, wanted in (
            (9, singles(9), 8), (12, singles(12) + (0,), 11), (12, (0b101010101010, 0b110011001100, 0xf0, 0xf00), 4),
            (2, (1,) * 9, 1), (3, (1, 2) * 6, 2),
        ):
            with self.subTest(many=many, questions=questions):
                if refusal(least_asked, many, questions) is None:
                    self.assert_least(many, questions, wanted)
                else:
                    self.assertEqual(refusal(least_asked, many, questions), ("TooMany",))

    def test_kinds(self):
        count, tree, shown = least_asked(8, singles(8))
        self.assertIs(type(count), int)
        self.assertIs(type(tree), tuple)
        self.assertIs(type(shown), tuple)


class BadSets(unittest.TestCase):
    def assert_bad(self, many, questions):
        with self.subTest(many=repr(many), questions=repr(questions)):
            self.assertEqual(refusal(least_asked, many, questions), ("BadSets",))
            self.assertEqual(refusal(asked_by, many, questions, ("is", 0), 0), ("BadSets",))
            self.assertEqual(refusal(asked_by, many, questions, None, None), ("BadSets",))
            self.assertEqual(refusal(shows_asked, many, questions, 0, ("many",)), ("BadSets",))
            self.assertEqual(refusal(shows_asked, many, questions, None, None), ("BadSets",))

    def test_how_many_parts(self):
        for many in wrong_counts_of_parts():
            for questions in ((0,), (1,), (1, 2), FOUR):
                self.assert_bad(many, questions)

    def test_questions(self):
        for questions in wrong_questions(4):
            self.assert_bad(4, questions)

    def test_bounds_of_questions(self):
        for many in range(1, 13):
            self.assert_bad(many, (2 ** many,))
            self.assert_bad(many, (0,) * 13)
            self.assertIsNone(refusal(asked_by, many, (2 ** many - 1,), ("is", 0), 0))
            self.assertIsNone(refusal(asked_by, many, (0,) * 12, ("is", 0), 0))
            self.assertIsNone(refusal(shows_asked, many, (2 ** many - 1,) * 12, 0, None))

    def test_both_wrong(self):
        for many in (0, 13, True, None, "4", -1):
            for questions in ((), [1], None, (2 ** 12,), (True,), (-1,)):
                self.assert_bad(many, questions)

    def test_what_is_handed_in_stays_as_it_was(self):
        questions = [1, [2]]
        self.assert_bad(4, questions)
        self.assertEqual(questions, [1, [2]])


class AskedBy(unittest.TestCase):
    def test_an_end_alone(self):
        for i in range(4):
            for end in range(4):
                self.assertEqual(asked_by(4, FOUR, ("is", end), i), (end, 0))
        self.assertEqual(asked_by(1, (0,), ("is", 0), 0), (0, 0))

    def test_several_questions(self):
        self.assertEqual([asked_by(4, FOUR, TREE, i) for i in range(4)], [(0, 2), (1, 2), (2, 2), (3, 2)])
        tree = ("ask", 0, ("ask", 1, ("is", 3), ("is", 1)), ("is", 2))
        self.assertEqual([asked_by(4, FOUR, tree, i) for i in range(4)], [(2, 1), (1, 2), (2, 1), (3, 2)])

    def test_a_tree_that_asks_again_or_tells_nothing_of_use(self):
        tree = ("ask", 0, ("ask", 0, ("is", 3), ("is", 0)), ("ask", 0, ("is", 0), ("is", 2)))
        self.assertEqual([asked_by(4, FOUR, tree, i) for i in range(4)], [(2, 2), (3, 2), (2, 2), (3, 2)])

    def test_twelve_parts_and_questions(self):
        questions = tuple(2 ** i for i in range(12))
        tree = ("is", 11)
        for q in range(10, -1, -1):
            tree = ("ask", q, ("is", q), tree)
        self.assertEqual([asked_by(12, questions, tree, i) for i in range(12)],
                         [(i, i + 1) for i in range(11)] + [(11, 11)])

    def assert_no_tree(self, tree):
        with self.subTest(tree=repr(tree)):
            for i in (0, 3, None, 4):
                self.assertEqual(refusal(asked_by, 4, FOUR, tree, i), ("BadSets",))

    def test_what_is_no_tree(self):
        for tree in no_texts() + [
            "", "is", "ask", [*TREE], ["is", 0], ("is",), ("is", 0, 0), ("IS", 0), ("ask", 0), ("ask", 0, ENDS[0]),
            ("ask", 0, *ENDS[:3]), ("Ask", 0, *ENDS[:2]), ("is", 0, *ENDS[:2]), (b"is", 0), (0, "is"), {"is": 0},
            ("ask", 0, 0, 1), ("ask", 0, (), ()), ("ask", *ENDS[:2], 0), (("is", 0),), Alike(), (Alike(), 0),
            ("is", Alike()), (Alike(), 0, *ENDS[:2]), ("ask", Alike(), *ENDS[:2]), ("ask", 0, Alike(), Alike()),
        ]:
            self.assert_no_tree(tree)
            self.assert_no_tree(("ask", 0, tree, ENDS[0]))
            self.assert_no_tree(("ask", 0, ENDS[0], tree))
            self.assert_no_tree(("ask", 0, ENDS[0], ("ask", 1, tree, ENDS[0])))

    def test_numbers_of_questions_and_parts(self):
        for number in [*no_numbers(), 4, 5, 10 ** 30]:
            self.assert_no_tree(("is", number))
            self.assert_no_tree(("ask", 0, ENDS[0], ("is", number)))
        for number in [*no_numbers(), 2, 3, 10 ** 30]:
            self.assert_no_tree(("ask", number, *ENDS[:2]))
            self.assert_no_tree(("ask", 0, ENDS[0], ("ask", number, *ENDS[:2])))

    def test_how_deep(self):
        for turn in (False, True):
            tree = ("is", 2)
            for deep in range(2, 23):
                tree = ("ask", 0, ENDS[0], tree) if turn else ("ask", 1, tree, ENDS[1])
                if deep <= 20:
                    self.assertIsNone(refusal(asked_by, 4, FOUR, tree, 0))
                else:
                    self.assert_no_tree(tree)
        tree = ("is", 2)
        for _ in range(19):
            tree = ("ask", 0, ENDS[0], tree)
        self.assertEqual(asked_by(4, FOUR, tree, 0), (2, 19))
        self.assertEqual(asked_by(4, FOUR, tree, 1), (0, 1))

    def test_how_many_trees(self):
        # Each question stands ahead of one end more, so a tree has an odd number of trees in all.
        for many in (1, 3, 255, 497, 499, 501, 503, 999):
            tree = shallow(many)
            self.assertEqual(count_trees(tree), many)
            if many <= 500:
                self.assertEqual(asked_by(4, FOUR, tree, 0)[0], 0)
            else:
                self.assert_no_tree(tree)
        for many, wanted in ((479, None), (481, ("BadSets",))):
            tree = shallow(many)
            for _ in range(10):
                tree = ("ask", 1, ENDS[1], tree)
            self.assertEqual(count_trees(tree), many + 20)
            self.assertEqual(refusal(asked_by, 4, FOUR, tree, 0), wanted)

    def test_a_tree_that_stands_there_often(self):
        tree = ENDS[0]
        for deep in range(2, 21):
            tree = ("ask", 0, tree, tree)
            if deep <= 8:
                self.assertEqual(asked_by(4, FOUR, tree, 1), (0, deep - 1))
            else:
                self.assert_no_tree(tree)

    def test_what_is_no_part(self):
        for i in [*no_numbers(), 4, 5, 10 ** 30]:
            with self.subTest(i=repr(i)):
                self.assertEqual(refusal(asked_by, 4, FOUR, TREE, i), ("BadSets",))
                self.assertEqual(refusal(asked_by, 4, FOUR, ENDS[0], i), ("BadSets",))

    def test_wrong_in_pairs(self):
        for told in ((4, [1], None, 0), (4, (16,), TREE, 9), (4, FOUR, ("is", 4), -1), (0, (), None, None)):
            self.assertEqual(refusal(asked_by, *told), ("BadSets",))

    def test_what_is_handed_in_stays_as_it_was(self):
        tree = ["ask", 0, ["is", 0], ["is", 1]]
        self.assert_no_tree(tree)
        self.assertEqual(tree, ["ask", 0, ["is", 0], ["is", 1]])


def count_trees(tree):
    """Tell how many trees a tree has within it, itself too."""
    return 1 if tree[0] == "is" else 1 + count_trees(tree[2]) + count_trees(tree[3])


def shallow(many):
    """Tell a tree of so many trees, an odd number, that is as shallow as can be."""
    if many == 1:
        return ENDS[0]
    half = (many - 1) // 2
    half -= 1 - half % 2
    return ("ask", 0, shallow(half), shallow(many - 1 - half))


if __name__ == "__main__":
    unittest.main()
