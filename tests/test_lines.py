import unittest
from fractions import Fraction

from faultwood import lines
from faultwood.lines import bound_for, line_of
from faultwood.odds import odds_by_states
from faultwood.reading import read
from faultwood.shares import is_share
from faultwood.trees import odds_of, tree_of
from faultwood.weights import weight_of
from models import SHARED, TEXTS, mixed_trees, pair_of, tree_odds
from things import no_odds, odds_wrong_for, own_names, refusal

NAMES = {"line_of", "bound_for"}

ROWS = (("part", 0), ("part", 1), ("part", 2))
ANY = (3, ROWS + (("least", 1, (0, 1)),), (1, 2, 4))
ALL = (3, ROWS + (("least", 2, (0, 1)),), (1, 2, 4))
ODDS = ((1, 2), (1, 3), (1, 5))


def with_one(odds, i, one):
    return odds[:i] + (one,) + odds[i + 1:]


class File(unittest.TestCase):
    def test_it_defines_each_function(self):
        self.assertEqual(own_names(lines) & NAMES, NAMES)


class LineOf(unittest.TestCase):
    def test_small_ones(self):
        for tree, wanted in (
            (ANY, (((1, 3), (2, 3)), ((1, 2), (1, 2)), ((2, 3), (0, 1)))),
            (ALL, (((0, 1), (1, 3)), ((0, 1), (1, 2)), ((1, 6), (0, 1)))),
        ):
            for i in range(3):
                self.assertEqual(line_of(tree, ODDS, i), wanted[i])
        self.assertEqual(line_of((1, ROWS[:1], (1,)), ((1, 9),), 0), ((0, 1), (1, 1)))

    def test_a_part_that_is_brought(self):
        tree = (3, ROWS + (("least", 1, (1,)),), (3, 2, 4))
        self.assertEqual(line_of(tree, ODDS, 0), ((1, 3), (2, 3)))
        self.assertEqual(line_of(tree, ODDS, 1), ((1, 2), (1, 2)))

    def test_the_own_odds_are_all_one(self):
        for i in range(3):
            for one in ((0, 1), (1, 1), (7, 9)):
                self.assertEqual(line_of(ANY, with_one(ODDS, i, one), i), line_of(ANY, ODDS, i))

    def test_trees_of_all_kinds(self):
        works = [read(text) for text in TEXTS]
        for tree, told in mixed_trees(80) + [(tree_of(each), odds_of(each)) for each in works]:
            for i in range(tree[0]):
                low, rise = line_of(tree, told, i)
                with self.subTest(tree=tree, told=told, i=i):
                    self.assertIs(is_share(low) and is_share(rise), True)
                    self.assertEqual(rise, weight_of(tree, told, i))
                    for one in (told[i], (0, 1), (1, 1), (1, 3), (999, 1000)):
                        found = Fraction(*low) + Fraction(*rise) * Fraction(*one)
                        self.assertEqual(tree_odds(tree, with_one(told, i, one)), pair_of(found))

    def test_it_is_a_pair(self):
        told = line_of(ANY, ODDS, 0)
        self.assertIs(type(told), tuple)
        self.assertEqual(len(told), 2)

    def test_wrong_odds(self):
        for told in odds_wrong_for(ODDS):
            with self.subTest(told=repr(told)):
                self.assertEqual(refusal(line_of, ANY, told, 0), ("BadOdds",))

    def test_what_is_no_number_of_a_part(self):
        for i in (-1, 3, True, None, "0", [0]):
            self.assertEqual(refusal(line_of, ANY, ODDS, i), ("BadOdds",))
            self.assertEqual(refusal(bound_for, ANY, ODDS, i, (1, 2)), ("BadOdds",))


class BoundFor(unittest.TestCase):
    def test_between(self):
        # The odds of the top are 1/3 and 2/3 times the part's.
        for limit, wanted in (
            ((0, 1), None), ((1, 4), None), ((333, 1000), None), ((1, 3), (0, 1)), ((1, 2), (1, 4)), ((2, 3), (1, 2)),
            ((5, 6), (3, 4)), ((999, 1000), (1997, 2000)), ((1, 1), (1, 1)),
        ):
            with self.subTest(limit=limit):
                self.assertEqual(bound_for(ANY, ODDS, 0, limit), wanted)

    def test_more_than_the_part_can_do(self):
        # The odds of the top are 1/3 times the part's.
        for limit, wanted in (((0, 1), (0, 1)), ((1, 6), (1, 2)), ((33, 100), (99, 100)), ((1, 3), (1, 1)),
                              ((2, 5), (1, 1)), ((1, 1), (1, 1))):
            with self.subTest(limit=limit):
                self.assertEqual(bound_for(ALL, ODDS, 0, limit), wanted)

    def test_a_part_that_matters_nothing(self):
        for tree, odds in ((ANY, (2, 3)), (ALL, (1, 6))):
            for limit, wanted in (
                (odds, (1, 1)), ((1, 1), (1, 1)), (pair_of(Fraction(*odds) + Fraction(1, 1000)), (1, 1)),
                (pair_of(Fraction(*odds) - Fraction(1, 1000)), None), ((0, 1), None),
            ):
                with self.subTest(tree=tree, limit=limit):
                    self.assertEqual(bound_for(tree, ODDS, 2, limit), wanted)

    def test_the_own_odds_are_all_one(self):
        for one in ((0, 1), (1, 1), (7, 9)):
            self.assertEqual(bound_for(ANY, with_one(ODDS, 0, one), 0, (1, 2)), (1, 4))

    def test_trees_of_all_kinds(self):
        for tree, told in mixed_trees(80):
            for i in range(tree[0]):
                low, high = [Fraction(*tree_odds(tree, with_one(told, i, one))) for one in ((0, 1), (1, 1))]
                little = Fraction(1, 10 ** 9)
                for limit in {0, 1, Fraction(1, 3), low, high, (low + high) / 2, low - little, high + little}:
                    if 0 <= limit <= 1:
                        self.assert_bound(tree, told, i, limit)

    def assert_bound(self, tree, told, i, limit):
        found = bound_for(tree, told, i, pair_of(limit))
        with self.subTest(tree=tree, told=told, i=i, limit=limit):
            if found is None:
                self.assertGreater(Fraction(*tree_odds(tree, with_one(told, i, (0, 1)))), limit)
                return
            self.assertIs(is_share(found), True)
            self.assertTrue(0 <= Fraction(*found) <= 1)
            self.assertLessEqual(Fraction(*odds_by_states(tree, with_one(told, i, found))), limit)
            if found != (1, 1):
                more = pair_of(min(1, Fraction(*found) + Fraction(1, 10 ** 15)))
                self.assertGreater(Fraction(*odds_by_states(tree, with_one(told, i, more))), limit)

    def test_wrong_odds_then_wrong_limits(self):
        for told in odds_wrong_for(ODDS):
            for limit in ((1, 2), (2, 1), None, [1, 2]):
                with self.subTest(told=repr(told), limit=limit):
                    self.assertEqual(refusal(bound_for, ANY, told, 0, limit), ("BadOdds",))
        for limit in no_odds():
            with self.subTest(limit=repr(limit)):
                self.assertEqual(refusal(bound_for, ANY, ODDS, 0, limit), ("BadOdds",))

    def test_the_same_each_time_and_nothing_is_changed(self):
        tree, told = tree_of(read(SHARED)), odds_of(read(SHARED))
        self.assertEqual(bound_for(tree, told, 1, (1, 3)), bound_for(tree, told, 1, (1, 3)))
        self.assertEqual(line_of(tree, told, 1), line_of(tree, told, 1))
        self.assertEqual((tree, told), (tree_of(read(SHARED)), odds_of(read(SHARED))))


if __name__ == "__main__":
    unittest.main()
