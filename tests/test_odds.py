import unittest

from faultwood import odds
from faultwood.odds import need_odds, odds_by_parting, odds_by_sets, odds_by_states
from faultwood.reading import read
from faultwood.shares import is_share, share
from faultwood.trees import odds_of, tree_of
from models import GREAT, IN_A_RING, IN_A_ROW, ONE, SHARED, TEXTS, UNUSED, mixed_trees, top_odds, tree_odds
from things import many_parts, odds_wrong_for, own_names, refusal, works_text

NAMES = {"need_odds", "odds_by_states", "odds_by_parting", "odds_by_sets"}
WAYS = (odds_by_states, odds_by_parting, odds_by_sets)

PLAIN = (3, (("part", 0), ("part", 1), ("part", 2), ("least", 2, (0, 1, 2))), (1, 2, 4))
GOOD = ((1, 2), (0, 1), (1, 1))


class File(unittest.TestCase):
    def test_it_defines_each_function(self):
        self.assertEqual(own_names(odds) & NAMES, NAMES)


class NeedOdds(unittest.TestCase):
    def test_good_ones(self):
        great = 10 ** 200
        for told in (
            GOOD, ((0, 1),) * 3, ((1, 1),) * 3, ((1, 1000), (999, 1000), (1, 3)),
            ((1, great), (great - 1, great), (great, great + 1)),
        ):
            with self.subTest(told=told):
                self.assertIsNone(need_odds(PLAIN, told))

    def test_as_many_as_there_are_parts(self):
        for many in range(1, 13):
            rows = tuple(("part", i) for i in range(many))
            tree = (many, rows, tuple(2 ** i for i in range(many)))
            self.assertIsNone(need_odds(tree, ((1, 2),) * many))
            for other in (0, many - 1, many + 1):
                self.assertEqual(refusal(need_odds, tree, ((1, 2),) * other), ("BadOdds",))

    def test_wrong_ones_of_all_functions(self):
        for made in (need_odds, *WAYS):
            for told in odds_wrong_for(GOOD):
                with self.subTest(made=made, told=repr(told)):
                    self.assertEqual(refusal(made, PLAIN, told), ("BadOdds",))

    def test_wrong_ones_of_a_single_part(self):
        for made in (need_odds, *WAYS):
            for told in odds_wrong_for(((1, 2),)):
                with self.subTest(made=made, told=repr(told)):
                    self.assertEqual(refusal(made, tree_of(read(ONE)), told), ("BadOdds",))

    def test_what_is_handed_in_stays_as_it_was(self):
        told = [[1, 2], (0, 1), {1: [1]}]
        self.assertEqual(refusal(need_odds, PLAIN, told), ("BadOdds",))
        self.assertEqual(told, [[1, 2], (0, 1), {1: [1]}])


class OddsOfTheTop(unittest.TestCase):
    def assert_odds(self, tree, told, wanted):
        for made in WAYS:
            with self.subTest(made=made, told=told):
                found = made(tree, told)
                self.assertEqual(found, wanted)
                self.assertIs(is_share(found), True)

    def test_without_gates(self):
        for one in ((0, 1), (1, 1), (1, 2), (3, 1000)):
            self.assert_odds((1, (("part", 0),), (1,)), (one,), one)
        rows = (("part", 0), ("part", 1))
        self.assert_odds((2, rows, (1, 2)), ((1, 2), (1, 3)), (1, 3))
        self.assert_odds((2, rows, (3, 2)), ((1, 2), (1, 3)), (2, 3))

    def test_how_many_must_fail(self):
        told = ((1, 2), (1, 3), (1, 5))
        for least, wanted in ((1, (11, 15)), (2, (4, 15)), (3, (1, 30))):
            tree = PLAIN[:1] + (PLAIN[1][:3] + (("least", least, (0, 1, 2)),),) + PLAIN[2:]
            self.assert_odds(tree, told, wanted)

    def test_in_lowest_terms(self):
        tree = tree_of(read(works_text()))
        self.assert_odds(tree, ((1, 2), (1, 2)), (3, 4))
        self.assert_odds(tree, ((1, 4), (1, 3)), (1, 2))
        self.assert_odds(tree, ((0, 1), (0, 1)), (0, 1))
        self.assert_odds(tree, ((1, 3), (1, 1)), (1, 1))

    def test_shared_parts_and_gates(self):
        tree = (2, (("part", 0), ("part", 1), ("least", 1, (0, 1)), ("least", 2, (0, 2))), (1, 2))
        self.assert_odds(tree, ((1, 5), (1, 7)), (1, 5))
        tree = (2, (("part", 0), ("part", 1), ("least", 2, (0, 1)), ("least", 2, (0, 2)), ("least", 2, (2, 3))), (1, 2))
        self.assert_odds(tree, ((1, 5), (1, 7)), (1, 35))

    def test_parts_that_bring_others(self):
        rows = PLAIN[1][:3] + (("least", 2, (0, 2)),)
        told = ((1, 2), (1, 3), (1, 5))
        self.assert_odds((3, rows, (1, 2, 4)), told, (1, 10))
        self.assert_odds((3, rows, (1, 3, 4)), told, (2, 15))
        self.assert_odds((3, rows, (7, 6, 4)), told, (1, 2))
        self.assert_odds((3, rows, (7, 7, 7)), told, (11, 15))

    def test_as_works_tell(self):
        for text in TEXTS:
            works = read(text)
            told = odds_of(works)
            self.assert_odds(tree_of(works), told, top_odds(works, told))

    def test_as_works_tell_with_other_odds(self):
        for text in (SHARED, IN_A_ROW, IN_A_RING, UNUSED):
            works = read(text)
            many = len(works[0])
            for told in (
                ((0, 1),) * many, ((1, 1),) * many, ((1, 2),) * many,
                tuple((1, 1) if i % 2 else (0, 1) for i in range(many)),
                tuple((0, 1) if i % 3 else (1, 3) for i in range(many)),
                tuple((1, 1) if i % 3 else (2, 3) for i in range(many)),
                tuple(share(997 - i, 1000) if i % 2 == 0 else (1, 1000) for i in range(many)),
            ):
                self.assert_odds(tree_of(works), told, top_odds(works, told))

    def test_trees_of_all_kinds(self):
        for tree, told in mixed_trees(120):
            self.assert_odds(tree, told, tree_odds(tree, told))

    def test_odds_of_nought_and_of_one(self):
        for text in TEXTS:
            tree = tree_of(read(text))
            self.assert_odds(tree, ((0, 1),) * tree[0], (0, 1))
            self.assert_odds(tree, ((1, 1),) * tree[0], (1, 1))

    def test_numbers_of_many_figures(self):
        great = 10 ** 60
        tree = tree_of(read(works_text(gates=["gate g all a b"])))
        self.assert_odds(tree, ((1, great), (1, great)), (1, great ** 2))
        tree = tree_of(read(works_text()))
        self.assert_odds(tree, ((1, great), (great - 1, great)), (great ** 2 - great + 1, great ** 2))

    def test_more_parts_with_some_gates(self):
        works = read(GREAT)
        self.assert_odds(tree_of(works), odds_of(works), top_odds(works, odds_of(works)))
        gates = ["gate g 4 p0 p1 p2 p3 p4 p5 p6 p7", "gate h all p8 p9 p10 p11", "gate i 2 p3 p4 p5 p9",
                 "gate j 2 g h i"]
        parts = [f"part p{i} {7 * i + 1}/1000" for i in range(12)]
        works = read(works_text(parts=parts, gates=gates, brings=["brings p3 p8", "brings p8 p0"], tops=["top j"]))
        self.assert_odds(tree_of(works), odds_of(works), top_odds(works, odds_of(works)))

    def test_any_of_many_and_all_of_many(self):
        told = tuple((1, i + 2) for i in range(8))
        for word, wanted in (("any", (8, 9)), ("all", (1, 362880))):
            works = read(works_text(parts=many_parts(8), gates=[f"gate g {word} p0 p1 p2 p3 p4 p5 p6 p7"]))
            self.assert_odds(tree_of(works), told, wanted)

    def test_the_same_each_time_and_nothing_is_changed(self):
        tree = tree_of(read(SHARED))
        told = odds_of(read(SHARED))
        for made in WAYS:
            self.assertEqual(made(tree, told), made(tree, told))
        self.assertEqual(tree, tree_of(read(SHARED)))
        self.assertEqual(told, odds_of(read(SHARED)))


if __name__ == "__main__":
    unittest.main()
