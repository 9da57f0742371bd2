import unittest

from faultwood import trees
from faultwood.reading import read
from faultwood.trees import all_brought, falls, is_tree, need_tree, odds_of, tree_of
from models import (
    GREAT, IN_A_RING, IN_A_ROW, MIDDLE_ON_TOP, ONE, PART_ON_TOP, SHARED, TEXTS, UNUSED, failing_parts, names_in, stops,
)
from things import Alike, many_parts, no_texts, own_names, refusal, works_text

NAMES = {"tree_of", "odds_of", "is_tree", "need_tree", "all_brought", "falls"}

PARTS = (("part", 0), ("part", 1), ("part", 2))
GOOD = (3, PARTS + (("least", 2, (0, 1, 2)), ("least", 1, (3, 0))), (1, 7, 4))


def part_rows(many):
    return tuple(("part", i) for i in range(many))


def alone(many):
    """Tell what parts bring of which each brings just itself."""
    return tuple(2 ** i for i in range(many))


def with_gate(*row):
    """Tell a tree of three parts with this row behind them."""
    return (3, PARTS + (row,), alone(3))


class File(unittest.TestCase):
    def test_it_defines_each_function(self):
        self.assertEqual(own_names(trees) & NAMES, NAMES)


class TreeOf(unittest.TestCase):
    def test_the_last_gate_on_top(self):
        self.assertEqual(tree_of(read(ONE)), (1, (("part", 0), ("least", 1, (0,))), (1,)))
        wanted = (
            5,
            part_rows(5) + (
                ("least", 2, (0, 1, 2)), ("least", 1, (5, 3)), ("least", 2, (5, 1)), ("least", 2, (6, 7, 4)),
            ),
            alone(5),
        )
        self.assertEqual(tree_of(read(SHARED)), wanted)

    def test_another_gate_on_top(self):
        wanted = (
            2,
            part_rows(2) + (("least", 2, (0, 1)), ("least", 1, (2, 0)), ("least", 1, (1,)), ("least", 1, (2,))),
            alone(2),
        )
        self.assertEqual(tree_of(read(MIDDLE_ON_TOP)), wanted)

    def test_a_part_on_top(self):
        wanted = (2, part_rows(2) + (("least", 2, (0, 1)), ("least", 1, (1,))), alone(2))
        self.assertEqual(tree_of(read(PART_ON_TOP)), wanted)
        works = read(PART_ON_TOP.replace("top b", "top a"))
        self.assertEqual(tree_of(works)[1][-1], ("least", 1, (0,)))

    def test_children_keep_their_order(self):
        works = read(works_text(gates=["gate g all b a", "gate h 2 b g a"], tops=["top h"]))
        self.assertEqual(tree_of(works)[1][2:], (("least", 2, (1, 0)), ("least", 2, (1, 2, 0))))

    def test_brought_in_a_row(self):
        self.assertEqual(tree_of(read(IN_A_ROW))[2], (0b01111, 0b01110, 0b01100, 0b01000, 0b10000))

    def test_brought_in_a_ring(self):
        self.assertEqual(tree_of(read(IN_A_RING))[2], (0b111, 0b111, 0b111, 0b1000, 0b110000, 0b100000))

    def test_brought_along_a_row_of_all_parts_both_ways(self):
        for turn in (1, -1):
            parts = many_parts(12)
            places = list(range(12))[::turn]
            rows = [f"brings p{one} p{other}" for one, other in zip(places, places[1:])]
            for brings in (rows, rows[::-1], rows[1::2] + rows[::2]):
                works = read(works_text(parts=parts, gates=["gate g any p0"], brings=brings))
                wanted = [sum(2 ** other for other in places[places.index(i):]) for i in range(12)]
                with self.subTest(brings=brings):
                    self.assertEqual(tree_of(works)[2], tuple(wanted))

    def test_the_most_rows(self):
        gates = [f"gate g{i} any p{i % 12}" for i in range(20)]
        tree = tree_of(read(works_text(parts=many_parts(12), gates=gates, tops=["top p3"])))
        self.assertEqual(len(tree[1]), 33)
        self.assertEqual(tree[1][-1], ("least", 1, (3,)))
        self.assertIs(is_tree(tree), True)

    def test_they_are_trees(self):
        for text in (*TEXTS, GREAT):
            with self.subTest(text=text):
                self.assertIs(is_tree(tree_of(read(text))), True)

    def test_the_same_each_time(self):
        works = read(IN_A_RING)
        self.assertEqual(tree_of(works), tree_of(works))
        self.assertEqual(works, read(IN_A_RING))


class OddsOf(unittest.TestCase):
    def test_lowest_terms(self):
        parts = ["part a 2/4", "part b 0/9", "part c 1000/1000", "part d 3/7", "part e 6/1000", "part f 0/1"]
        wanted = ((1, 2), (0, 1), (1, 1), (3, 7), (3, 500), (0, 1))
        self.assertEqual(odds_of(read(works_text(parts=parts, gates=["gate g any a"]))), wanted)

    def test_not_those_of_betters(self):
        works = read(works_text(betters=["better a 1/100 5"], spares=["spare b 1 1"]))
        self.assertEqual(odds_of(works), ((1, 2), (1, 3)))


class IsTree(unittest.TestCase):
    def assert_none(self, thing):
        with self.subTest(thing=repr(thing)):
            self.assertIs(is_tree(thing), False)
            self.assertEqual(refusal(need_tree, thing), ("BadTree",))

    def assert_tree(self, thing):
        with self.subTest(thing=repr(thing)):
            self.assertIs(is_tree(thing), True)
            self.assertIsNone(need_tree(thing))

    def test_good_ones(self):
        self.assert_tree(GOOD)
        for many in range(1, 13):
            self.assert_tree((many, part_rows(many), alone(many)))
        self.assert_tree((1, (("part", 0),) + (("least", 1, (0,)),) * 21, (1,)))
        self.assert_tree((12, part_rows(12) + (("least", 8, (0, 1, 2, 3, 4, 5, 6, 11)),) * 21, alone(12)))
        self.assert_tree((2, part_rows(2), (3, 3)))
        self.assert_tree((12, part_rows(12), (4095,) * 12))

    def test_anything_else(self):
        for thing in [*no_texts(), "", "tree", list(GOOD), [GOOD], (GOOD,), {GOOD: GOOD}]:
            self.assert_none(thing)

    def test_a_piece_too_few_or_too_many(self):
        self.assert_none(GOOD[:2])
        self.assert_none(GOOD + (0,))
        self.assert_none(GOOD + ((),))

    def test_any_piece_of_any_kind(self):
        for thing in no_texts() + ["", "part", "least"]:
            for place in range(3):
                if thing != 3:
                    self.assert_none(GOOD[:place] + (thing,) + GOOD[place + 1:])
            self.assert_none((3, PARTS + (thing,), alone(3)))
            self.assert_none((3, (thing,) + PARTS[1:], alone(3)))
            if thing != "least":
                self.assert_none(with_gate(thing, 1, (0,)))
            if thing != (1,):
                self.assert_none(with_gate("least", 1, thing))
            if type(thing) is not int:
                self.assert_none(with_gate("least", thing, (0,)))
                self.assert_none(with_gate("least", 1, (0, thing)))
                self.assert_none((3, (("part", thing),) + PARTS[1:], alone(3)))
                self.assert_none((3, PARTS, (1, 2, thing)))

    def test_how_many_parts(self):
        self.assert_none((0, (), ()))
        self.assert_none((-1, (), ()))
        self.assert_none((13, part_rows(13), alone(13)))
        self.assert_none((2,) + GOOD[1:])
        self.assert_none((4,) + GOOD[1:])
        self.assert_none((True, part_rows(1), alone(1)))
        self.assert_none((False, (), ()))

    def test_rows_of_parts(self):
        for many in range(1, 4):
            self.assert_none((many, part_rows(many - 1), alone(many)))
            self.assert_none((many, part_rows(many + 1), alone(many)))
        self.assert_none((3, (PARTS[1], PARTS[0], PARTS[2]), alone(3)))
        self.assert_none((3, (PARTS[0], PARTS[0], PARTS[2]), alone(3)))
        self.assert_none((3, PARTS[:2] + (("least", 1, (0,)),), alone(3)))
        self.assert_none((3, (("least", 1, (0,)),) + PARTS, alone(3)))
        self.assert_none((3, PARTS[:2] + (("least", 1, (0,)), PARTS[2]), alone(3)))
        for row in (("part",), ("part", 0, 0), ("part", 1), ("part", -1), ("PART", 0), ("gate", 0), (0, "part"),
                    ["part", 0], "part", ("part", False), ("part", "0"), ("part", (0,)), (b"part", 0), ()):
            self.assert_none((3, (row,) + PARTS[1:], alone(3)))
        self.assert_none((3, (PARTS[0], ("part", True), PARTS[2]), alone(3)))
        self.assert_none((3, list(PARTS), alone(3)))

    def test_how_many_gates(self):
        for many in (1, 12):
            for gates in (0, 1, 21):
                self.assert_tree((many, part_rows(many) + (("least", 1, (0,)),) * gates, alone(many)))
            self.assert_none((many, part_rows(many) + (("least", 1, (0,)),) * 22, alone(many)))

    def test_rows_of_gates(self):
        self.assert_tree(with_gate("least", 1, (0,)))
        for row in (("least", 1), ("least", 1, (0,), ()), ("LEAST", 1, (0,)), ("all", 1, (0,)), ("any", 1, (0,)),
                    ("gate", 1, (0,)), ("part", 1, (0,)), (1, "least", (0,)), ("least", (0,), 1), (b"least", 1, (0,))):
            self.assert_none(with_gate(*row))
        self.assert_none((3, PARTS + (["least", 1, (0,)],), alone(3)))
        self.assert_none((3, PARTS + (("part", 3),), alone(3)))

    def test_children(self):
        twelve = part_rows(12)
        for many in range(10):
            tree = (12, twelve + (("least", 1, tuple(range(many))),), alone(12))
            if 1 <= many <= 8:
                self.assert_tree(tree)
            else:
                self.assert_none(tree)
        for children in ((-1,), (3,), (4,), (0, 3), (0, -1), (0, 0), (2, 1, 2), (True,), (0, False), ("0",), (None,),
                         ((0,),), [0], [], 0, "0", {0: 0}, range(2)):
            self.assert_none(with_gate("least", 1, children))
        for children in ((0,), (2,), (2, 0, 1), (1, 2)):
            self.assert_tree(with_gate("least", 1, children))

    def test_rows_ahead(self):
        for child in range(7):
            tree = (3, PARTS + (("least", 1, (0,)), ("least", 1, (child,)), ("least", 1, (2,))), alone(3))
            if child < 4:
                self.assert_tree(tree)
            else:
                self.assert_none(tree)

    def test_how_many_must_fail(self):
        for many in range(1, 4):
            for least in range(-1, 6):
                tree = with_gate("least", least, tuple(range(many)))
                if 1 <= least <= many:
                    self.assert_tree(tree)
                else:
                    self.assert_none(tree)
        for least in (True, "1", None, (1,), [1]):
            self.assert_none(with_gate("least", least, (0, 1)))

    def test_brought_rows_of_bits(self):
        for brought in (
            (), (1, 2), (1, 2, 4, 4), (1, 2, 4, 8), [1, 2, 4], {0: 1}, (1, 2, -4), (1, 2, -1), (1, 2, 12), (1, 2, 8),
            (9, 2, 4), (1, 2, 4 + 2 ** 40), (True, 2, 4), (1, 2, None), (1, 2, "4"), (1, 2, [4]),
        ):
            self.assert_none((3, PARTS, brought))
        self.assert_none((1, (("part", 0),), (True,)))
        self.assert_none((1, (("part", 0),), (0,)))

    def test_brought_without_itself(self):
        for brought in ((0, 2, 4), (1, 0, 4), (1, 2, 0), (2, 2, 4), (1, 4, 4), (6, 2, 4), (1, 5, 4)):
            self.assert_none((3, PARTS, brought))

    def test_brought_without_what_a_brought_one_brings(self):
        for brought in ((3, 6, 4), (1, 3, 6), (5, 2, 6), (3, 2, 5), (1, 6, 5), (3, 7, 4), (3, 6, 5)):
            self.assert_none((3, PARTS, brought))
        for brought in ((7, 6, 4), (1, 3, 7), (7, 2, 6), (3, 3, 4), (7, 7, 7), (1, 6, 6), (5, 2, 5), (7, 2, 4)):
            self.assert_tree((3, PARTS, brought))

    def test_things_that_are_alike_to_all(self):
        thing = Alike()
        for tree in (
            thing, (3, PARTS, thing), (3, thing, alone(3)), (thing, PARTS, alone(3)), (3, PARTS + (thing,), alone(3)),
            (3, ((thing, 0),) + PARTS[1:], alone(3)), (3, (("part", thing),) + PARTS[1:], alone(3)),
            with_gate(thing, 1, (0,)), with_gate("least", thing, (0,)), with_gate("least", 1, thing),
            with_gate("least", 1, (thing,)), (3, PARTS, (1, 2, thing)),
        ):
            self.assert_none(tree)

    def test_what_is_handed_in_stays_as_it_was(self):
        things = [3, [["part", 0]], [1, [2]]]
        self.assert_none(things)
        self.assertEqual(things, [3, [["part", 0]], [1, [2]]])


class Falling(unittest.TestCase):
    def test_no_parts_and_all_parts(self):
        for text in (*TEXTS, GREAT):
            tree = tree_of(read(text))
            every = 2 ** tree[0] - 1
            with self.subTest(text=text):
                self.assertEqual(all_brought(tree, 0), 0)
                self.assertEqual(all_brought(tree, every), every)
                self.assertIs(falls(tree, 0), False)
                self.assertIs(falls(tree, every), True)

    def test_all_sets_as_works_tell(self):
        for text in TEXTS:
            works = read(text)
            tree = tree_of(works)
            for bits in range(2 ** tree[0]):
                failed = names_in(works, bits)
                with self.subTest(text=text, bits=bits):
                    self.assertEqual(names_in(works, all_brought(tree, bits)), failing_parts(works, failed))
                    self.assertIs(falls(tree, bits), stops(works, failed))

    def test_parts_that_bring_one_another(self):
        tree = tree_of(read(IN_A_RING))
        for bits, wanted in ((1, 7), (2, 7), (4, 7), (6, 7), (8, 8), (16, 48), (32, 32), (24, 56), (17, 55)):
            with self.subTest(bits=bits):
                self.assertEqual(all_brought(tree, bits), wanted)

    def test_what_a_part_brings_fails(self):
        tree = tree_of(read(UNUSED))
        self.assertEqual([falls(tree, 2 ** i) for i in range(4)], [False, True, False, True])

    def test_how_many_must_fail(self):
        for many in range(1, 9):
            for least in range(1, many + 1):
                tree = (many, part_rows(many) + (("least", least, tuple(range(many))),), alone(many))
                for bits in range(2 ** many):
                    self.assertIs(falls(tree, bits), bin(bits).count("1") >= least)

    def test_a_child_in_more_than_one_gate(self):
        tree = (2, part_rows(2) + (("least", 1, (0,)), ("least", 1, (0, 1)), ("least", 2, (0, 2, 3))), alone(2))
        self.assertEqual([falls(tree, bits) for bits in range(4)], [False, True, False, True])
        tree = (2, part_rows(2) + (("least", 1, (0, 1)), ("least", 2, (0, 2)), ("least", 2, (1, 3))), alone(2))
        self.assertEqual([falls(tree, bits) for bits in range(4)], [False, False, False, True])

    def test_the_last_row_is_the_top(self):
        self.assertEqual([falls((2, part_rows(2), alone(2)), bits) for bits in range(4)], [False, False, True, True])
        self.assertEqual([falls((2, part_rows(2), (3, 2)), bits) for bits in range(4)], [False, True, True, True])
        tree = (2, part_rows(2) + (("least", 2, (0, 1)), ("least", 1, (0,))), alone(2))
        self.assertEqual([falls(tree, bits) for bits in range(4)], [False, True, False, True])


if __name__ == "__main__":
    unittest.main()
