import unittest

from faultwood import alone as file
from faultwood.alone import alone, lesser_tree, odds_by_alone, rows_for
from faultwood.odds import odds_by_parting, odds_by_sets, odds_by_states
from faultwood.reading import read
from faultwood.shares import is_share
from faultwood.trees import is_tree, odds_of, tree_of
from models import GREAT, MIDDLE_ON_TOP, ONE, PART_ON_TOP, SHARED, TEXTS, gates_alone, mixed_trees, tree_odds
from things import many_parts, odds_wrong_for, own_names, refusal, works_text

NAMES = {"alone", "odds_by_alone"}


def part_rows(many):
    return tuple(("part", i) for i in range(many))


def each(many):
    """Tell what parts bring of which each brings just itself."""
    return tuple(2 ** i for i in range(many))


def tree_with(many, *gates, brought=None):
    """Tell a tree of so many parts with these gates, each K and its children."""
    return (many, part_rows(many) + tuple(("least", *gate) for gate in gates), brought or each(many))


class File(unittest.TestCase):
    def test_it_defines_each_function(self):
        self.assertEqual(own_names(file) & NAMES, NAMES)


class Alone(unittest.TestCase):
    def test_without_gates(self):
        self.assertEqual(alone((1, part_rows(1), (1,))), ())
        self.assertEqual(alone((3, part_rows(3), (7, 6, 4))), ())

    def test_one_gate(self):
        self.assertEqual(alone(tree_with(1, (1, (0,)))), (1,))
        self.assertEqual(alone(tree_with(3, (1, (0, 1)))), (3,))
        self.assertEqual(alone(tree_of(read(ONE))), (1,))

    def test_gates_within_gates(self):
        self.assertEqual(alone(tree_with(4, (2, (0, 1)), (1, (2, 3)), (1, (4, 5)))), (4, 5, 6))
        self.assertEqual(alone(tree_with(3, (2, (0, 1)), (1, (3, 2)))), (3, 4))
        self.assertEqual(alone(tree_with(1, (1, (0,)), (1, (1,)), (1, (2,)))), (1, 2, 3))

    def test_gates_that_share_a_part(self):
        self.assertEqual(alone(tree_with(3, (2, (0, 1)), (1, (1, 2)), (1, (3, 4)))), (5,))
        # The shared part is asked by the top itself, too.
        self.assertEqual(alone(tree_with(3, (2, (0, 1)), (1, (3, 2, 0)))), (4,))

    def test_gates_that_share_a_gate(self):
        tree = tree_with(4, (2, (0, 1)), (1, (4, 2)), (1, (4, 3)), (2, (5, 6)))
        self.assertEqual(alone(tree), (4, 7))
        tree = tree_with(4, (2, (0, 1)), (1, (4, 2)), (2, (4, 5)), (1, (6, 3)))
        self.assertEqual(alone(tree), (4, 6, 7))

    def test_two_gates_that_ask_the_same(self):
        self.assertEqual(alone(tree_with(2, (2, (0, 1)), (1, (0, 1)))), ())
        self.assertEqual(alone(tree_with(2, (2, (0, 1)), (1, (0, 1)), (1, (2, 3)))), (4,))

    def test_a_gate_that_nothing_asks(self):
        # Row 2 asks the part below the top, but isn't below it.
        self.assertEqual(alone(tree_with(2, (1, (0,)), (1, (0, 1)))), ())
        self.assertEqual(alone(tree_with(2, (1, (0,)), (1, (1,)))), (2, 3))

    def test_parts_that_bring_across_the_edge_of_a_gate(self):
        gates = ((2, (0, 1)), (1, (3, 2)))
        self.assertEqual(alone(tree_with(3, *gates)), (3, 4))
        self.assertEqual(alone(tree_with(3, *gates, brought=(1, 6, 4))), (4,))
        self.assertEqual(alone(tree_with(3, *gates, brought=(1, 2, 5))), (4,))
        gates = ((2, (0, 1)), (1, (4, 2)))
        self.assertEqual(alone(tree_with(4, *gates)), (4, 5))
        self.assertEqual(alone(tree_with(4, *gates, brought=(1, 2, 4, 12))), (4,))
        self.assertEqual(alone(tree_with(4, *gates, brought=(1, 2, 12, 8))), (4,))
        self.assertEqual(alone(tree_with(4, *gates, brought=(9, 2, 4, 8))), ())

    def test_parts_that_bring_within_a_gate(self):
        gates = ((2, (0, 1)), (1, (3, 2)))
        for brought in ((3, 2, 4), (1, 3, 4), (3, 3, 4)):
            self.assertEqual(alone(tree_with(3, *gates, brought=brought)), (3, 4))

    def test_the_row_that_is_added(self):
        tree = tree_of(read(works_text(gates=["gate g any a", "gate h any b"], tops=["top g"])))
        self.assertEqual(alone(tree), (2, 3, 4))
        self.assertEqual(alone(tree_of(read(PART_ON_TOP))), ())
        self.assertEqual(alone(tree_of(read(works_text(gates=["gate g any a"], tops=["top b"])))), (2, 3))
        self.assertEqual(alone(tree_of(read(MIDDLE_ON_TOP))), ())

    def test_trees_of_all_kinds(self):
        for tree in [tree for tree, _ in mixed_trees(400)] + [tree_of(read(text)) for text in (*TEXTS, GREAT)]:
            with self.subTest(tree=tree):
                self.assertEqual(alone(tree), gates_alone(tree))
                self.assertIs(type(alone(tree)), tuple)

    def test_the_same_each_time_and_nothing_is_changed(self):
        tree = tree_of(read(SHARED))
        self.assertEqual(alone(tree), alone(tree))
        self.assertEqual(tree, tree_of(read(SHARED)))


class OddsByAlone(unittest.TestCase):
    def assert_odds(self, tree, told):
        found = odds_by_alone(tree, told)
        with self.subTest(tree=tree, told=told):
            self.assertEqual(found, tree_odds(tree, told))
            self.assertIs(is_share(found), True)
            for made in (odds_by_states, odds_by_parting, odds_by_sets):
                self.assertEqual(made(tree, told), found)

    def test_without_gates(self):
        for told in (((1, 2), (1, 3), (1, 5)), ((0, 1), (1, 1), (0, 1)), ((1, 1), (0, 1), (1, 2))):
            self.assert_odds((3, part_rows(3), each(3)), told)
            self.assert_odds((3, part_rows(3), (7, 6, 4)), told)
            self.assert_odds((3, part_rows(3), (1, 2, 7)), told)
        self.assertEqual(odds_by_alone((1, part_rows(1), (1,)), ((2, 7),)), (2, 7))

    def test_gates_alone_within_gates_alone(self):
        told = ((1, 2), (1, 3), (1, 5), (1, 7), (1, 11), (1, 13))
        tree = tree_with(6, (2, (0, 1)), (1, (6, 2)), (2, (7, 3)), (1, (8, 4, 5)))
        self.assertEqual(alone(tree), (6, 7, 8, 9))
        self.assert_odds(tree, told)
        tree = tree_with(6, (2, (0, 1)), (1, (2, 3)), (2, (6, 7)), (1, (4, 5)), (2, (8, 9)))
        self.assertEqual(alone(tree), (6, 7, 8, 9, 10))
        self.assert_odds(tree, told)

    def test_a_gate_alone_that_several_ask(self):
        told = ((1, 2), (1, 3), (1, 5), (1, 7))
        self.assert_odds(tree_with(4, (2, (0, 1)), (1, (4, 2)), (1, (4, 3)), (2, (5, 6))), told)
        self.assert_odds(tree_with(4, (2, (0, 1)), (2, (4, 2)), (2, (4, 3)), (1, (5, 6, 4))), told)

    def test_parts_that_bring_others(self):
        told = ((1, 2), (1, 3), (1, 5), (1, 7))
        for brought in ((1, 6, 4, 8), (3, 2, 4, 8), (1, 2, 4, 12), (1, 2, 4, 13), (3, 3, 12, 12), (15, 15, 15, 15)):
            self.assert_odds(tree_with(4, (2, (0, 1)), (1, (4, 2)), brought=brought), told)
            self.assert_odds(tree_with(4, (2, (0, 1)), (1, (2, 3)), (2, (4, 5)), brought=brought), told)

    def test_a_gate_alone_that_is_not_below_the_top(self):
        told = ((1, 2), (1, 3), (1, 5))
        tree = tree_with(3, (2, (0, 1)), (1, (2,)))
        self.assertEqual(alone(tree), (3, 4))
        self.assert_odds(tree, told)

    def test_odds_of_nought_and_of_one(self):
        for text in TEXTS:
            tree = tree_of(read(text))
            many = tree[0]
            self.assert_odds(tree, ((0, 1),) * many)
            self.assert_odds(tree, ((1, 1),) * many)
            self.assert_odds(tree, tuple((i % 2, 1) for i in range(many)))
            self.assert_odds(tree, tuple((0, 1) if i % 2 else (1, 3) for i in range(many)))

    def test_trees_of_all_kinds(self):
        for tree, told in mixed_trees(400):
            self.assert_odds(tree, told)
        for text in TEXTS:
            works = read(text)
            self.assert_odds(tree_of(works), odds_of(works))

    def test_numbers_of_many_figures(self):
        great = 10 ** 50
        told = ((1, great), (great - 1, great), (1, great + 1), (1, 2))
        self.assert_odds(tree_with(4, (2, (0, 1)), (1, (2, 3)), (2, (4, 5))), told)

    def test_parts_take_the_place_of_gates_alone(self):
        tree = tree_with(6, (2, (0, 1)), (1, (2, 3)), (2, (6, 7)), (1, (4, 5)), (2, (8, 9)))
        gates = list(alone(tree))
        self.assertEqual(rows_for(tree, gates, 10), ([8, 9], [10]))
        self.assertEqual(lesser_tree(tree, [8, 9], [10]), tree_with(2, (2, (0, 1))))
        self.assertEqual(rows_for(tree, gates, 8), ([6, 7], [8]))
        self.assertEqual(rows_for(tree, gates, 6), ([0, 1], [6]))
        tree = tree_with(5, (1, (0, 1)), (2, (2, 5)), (2, (2, 3)), (1, (6, 7)), brought=(1, 2, 4, 8, 20))
        self.assertEqual(alone(tree), (5,))
        self.assertEqual(rows_for(tree, [5], 8), ([2, 3, 4, 5], [6, 7, 8]))
        wanted = tree_with(4, (2, (0, 3)), (2, (0, 1)), (1, (4, 5)), brought=(1, 2, 5, 8))
        self.assertEqual(lesser_tree(tree, [2, 3, 4, 5], [6, 7, 8]), wanted)

    def test_what_takes_the_place_is_a_tree(self):
        for tree, _ in mixed_trees(200):
            gates = list(alone(tree))
            for at in gates + [len(tree[1]) - 1]:
                leaves, asking = rows_for(tree, gates, at)
                self.assertIs(is_tree(lesser_tree(tree, leaves, asking)), True)

    def test_wrong_odds(self):
        tree = tree_with(3, (2, (0, 1)), (1, (3, 2)))
        for told in odds_wrong_for(((1, 2), (1, 3), (1, 5))):
            with self.subTest(told=repr(told)):
                self.assertEqual(refusal(odds_by_alone, tree, told), ("BadOdds",))

    def test_the_same_each_time_and_nothing_is_changed(self):
        works = read(works_text(parts=many_parts(4), gates=["gate g any p0 p1", "gate h all g p2 p3"], tops=["top h"]))
        tree, told = tree_of(works), odds_of(works)
        self.assertEqual(odds_by_alone(tree, told), odds_by_alone(tree, told))
        self.assertEqual((tree, told), (tree_of(works), odds_of(works)))


if __name__ == "__main__":
    unittest.main()
