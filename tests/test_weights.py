import unittest
from fractions import Fraction

from faultwood import weights
from faultwood.reading import read
from faultwood.shares import is_share
from faultwood.trees import odds_of, tree_of
from faultwood.weights import order_of, weight_of
from models import GREAT, SHARED, TEXTS, mixed_trees, tree_odds, tree_weight
from things import many_parts, odds_wrong_for, own_names, refusal, works_text

NAMES = {"weight_of", "order_of"}

ROWS = (("part", 0), ("part", 1), ("part", 2))


def gate(least, *children, brought=(1, 2, 4)):
    """Tell a tree of three parts with this gate on top."""
    return (3, ROWS + (("least", least, children),), brought)


class File(unittest.TestCase):
    def test_it_defines_each_function(self):
        self.assertEqual(own_names(weights) & NAMES, NAMES)


class WeightOf(unittest.TestCase):
    def test_small_ones(self):
        told = ((1, 2), (1, 3), (1, 5))
        for least, wanted in (
            (1, ((8, 15), (2, 5), (1, 3))), (2, ((2, 5), (1, 2), (1, 2))), (3, ((1, 15), (1, 10), (1, 6))),
        ):
            for i in range(3):
                with self.subTest(least=least, i=i):
                    self.assertEqual(weight_of(gate(least, 0, 1, 2), told, i), wanted[i])

    def test_a_part_that_matters_nothing(self):
        told = ((1, 2), (1, 3), (1, 5))
        self.assertEqual(weight_of(gate(1, 0, 1), told, 2), (0, 1))
        self.assertEqual(weight_of(gate(2, 0, 1), ((1, 2), (0, 1), (1, 5)), 0), (0, 1))
        self.assertEqual(weight_of(gate(1, 0, 1), ((1, 2), (1, 1), (1, 5)), 0), (0, 1))

    def test_a_part_that_alone_decides(self):
        told = ((1, 2), (1, 3), (1, 5))
        self.assertEqual(weight_of(gate(1, 1), told, 1), (1, 1))
        self.assertEqual(weight_of((1, (("part", 0),), (1,)), ((1, 9),), 0), (1, 1))
        self.assertEqual(weight_of(gate(2, 0, 1), ((1, 2), (1, 1), (1, 5)), 0), (1, 1))
        self.assertEqual(weight_of(gate(1, 0, 1), ((1, 2), (0, 1), (1, 5)), 0), (1, 1))

    def test_a_part_that_is_brought(self):
        told = ((1, 2), (1, 3), (1, 5))
        tree = gate(1, 1, brought=(3, 2, 4))
        self.assertEqual(weight_of(tree, told, 0), (2, 3))
        self.assertEqual(weight_of(tree, told, 1), (1, 2))
        self.assertEqual(weight_of(tree, told, 2), (0, 1))
        ring = gate(1, 1, brought=(7, 7, 7))
        self.assertEqual([weight_of(ring, told, i) for i in range(3)], [(8, 15), (2, 5), (1, 3)])
        # Failing for sure by itself is more than being brought down.
        self.assertEqual(weight_of(tree, ((1, 1), (1, 3), (1, 5)), 1), (0, 1))

    def test_the_own_odds_are_all_one(self):
        tree = tree_of(read(SHARED))
        told = odds_of(read(SHARED))
        for i in range(5):
            for one in ((0, 1), (1, 1), (1, 2), (999, 1000)):
                other = told[:i] + (one,) + told[i + 1:]
                with self.subTest(i=i, one=one):
                    self.assertEqual(weight_of(tree, other, i), weight_of(tree, told, i))

    def test_it_is_how_much_the_top_rises(self):
        tree = tree_of(read(SHARED))
        told = odds_of(read(SHARED))
        for i in range(5):
            low, high = [
                Fraction(*tree_odds(tree, told[:i] + (one,) + told[i + 1:])) for one in ((1, 4), (3, 4))
            ]
            self.assertEqual(Fraction(*weight_of(tree, told, i)), 2 * (high - low))

    def test_trees_of_all_kinds(self):
        works = [read(text) for text in TEXTS]
        trees = mixed_trees(60) + [(tree_of(told), odds_of(told)) for told in works]
        for tree, told in trees:
            for i in range(tree[0]):
                with self.subTest(tree=tree, told=told, i=i):
                    found = weight_of(tree, told, i)
                    self.assertEqual(found, tree_weight(tree, told, i))
                    self.assertIs(is_share(found), True)

    def test_wrong_odds(self):
        for told in odds_wrong_for(((1, 2), (1, 3), (1, 5))):
            with self.subTest(told=repr(told)):
                self.assertEqual(refusal(weight_of, gate(1, 0, 1), told, 0), ("BadOdds",))

    def test_what_is_no_number_of_a_part(self):
        for i in (-1, 3, True, None, "0", [0]):
            self.assertEqual(refusal(weight_of, gate(1, 0, 1), ((1, 2),) * 3, i), ("BadOdds",))


class OrderOf(unittest.TestCase):
    def test_falling_weights(self):
        told = ((1, 2), (1, 3), (1, 5))
        self.assertEqual(order_of(gate(1, 0, 1, 2), told), (0, 1, 2))
        self.assertEqual(order_of(gate(3, 0, 1, 2), told), (2, 1, 0))
        self.assertEqual(order_of(gate(1, 1), told), (1, 0, 2))

    def test_like_weights_by_numbers(self):
        told = ((1, 2), (1, 3), (1, 5))
        self.assertEqual(order_of(gate(2, 0, 1, 2), told), (1, 2, 0))
        self.assertEqual(order_of(gate(1, 2), told), (2, 0, 1))

    def test_all_alike(self):
        for least in (1, 2, 3):
            self.assertEqual(order_of(gate(least, 2, 0, 1), ((1, 2),) * 3), (0, 1, 2))
        works = read(works_text(parts=many_parts(12), gates=["gate g any p0", "gate h any p11"], tops=["top h"]))
        self.assertEqual(order_of(tree_of(works), odds_of(works)), (11, *range(11)))

    def test_a_single_part(self):
        self.assertEqual(order_of((1, (("part", 0),), (1,)), ((1, 2),)), (0,))
        self.assertEqual(order_of((1, (("part", 0),), (1,)), ((0, 1),)), (0,))

    def test_weights_that_are_close_to_one_another(self):
        great = 10 ** 40
        told = ((1, great), (1, great + 1), (1, great - 1))
        self.assertEqual(order_of(gate(1, 0, 1, 2), told), (2, 0, 1))
        self.assertEqual(order_of(gate(3, 0, 1, 2), told), (1, 0, 2))

    def test_trees_of_all_kinds(self):
        works = [read(text) for text in (*TEXTS, GREAT)]
        trees = mixed_trees(60) + [(tree_of(told), odds_of(told)) for told in works]
        for tree, told in trees:
            falling = sorted(range(tree[0]), key=lambda i: (-Fraction(*weight_of(tree, told, i)), i))
            with self.subTest(tree=tree, told=told):
                self.assertEqual(order_of(tree, told), tuple(falling))

    def test_wrong_odds(self):
        for told in odds_wrong_for(((1, 2), (1, 3), (1, 5))):
            with self.subTest(told=repr(told)):
                self.assertEqual(refusal(order_of, gate(1, 0, 1), told), ("BadOdds",))

    def test_the_same_each_time_and_nothing_is_changed(self):
        tree = tree_of(read(SHARED))
        told = odds_of(read(SHARED))
        self.assertEqual(order_of(tree, told), order_of(tree, told))
        self.assertEqual(tree, tree_of(read(SHARED)))
        self.assertEqual(told, odds_of(read(SHARED)))


if __name__ == "__main__":
    unittest.main()
