import unittest

from faultwood import sets
from faultwood.reading import read
from faultwood.sets import cross, cuts, keeps
from faultwood.trees import falls, tree_of
from models import (
    GREAT, IN_A_RING, IN_A_ROW, MIDDLE_ON_TOP, ONE, PART_ON_TOP, SEVERAL_SIZES, SHARED, TEXTS, UNUSED, least_ones,
    names_in, stops,
)
from things import no_texts, own_names, refusal

NAMES = {"cuts", "keeps", "cross"}


def trees():
    return [tree_of(read(text)) for text in (*TEXTS, GREAT)]


def has_part_with_each(told):
    """Tell how to ask whether a set has a part with each of these sets."""
    return lambda bits: all(bits & other != 0 for other in told)


class File(unittest.TestCase):
    def test_it_defines_each_function(self):
        self.assertEqual(own_names(sets) & NAMES, NAMES)


class CutsAndKeeps(unittest.TestCase):
    def test_small_ones(self):
        for text, wanted_cuts, wanted_keeps in (
            (ONE, (1,), (1,)),
            (PART_ON_TOP, (2,), (2,)),
            (MIDDLE_ON_TOP, (3,), (1, 2)),
            (UNUSED, (2, 8), (0b1010,)),
            (IN_A_ROW, (0b10001, 0b10010, 0b10100), (0b10000, 0b111)),
        ):
            tree = tree_of(read(text))
            with self.subTest(text=text):
                self.assertEqual(cuts(tree), wanted_cuts)
                self.assertEqual(keeps(tree), wanted_keeps)

    def test_more_than_one_count_of_parts(self):
        tree = tree_of(read(SEVERAL_SIZES))
        self.assertEqual(cuts(tree), (0b001000, 0b110000, 0b000111))
        self.assertEqual(keeps(tree), (0b011001, 0b011010, 0b011100, 0b101001, 0b101010, 0b101100))

    def test_order(self):
        seen = set()
        for tree in trees():
            for told in (cuts(tree), keeps(tree)):
                counts = [bin(bits).count("1") for bits in told]
                seen.add(len(set(counts)))
                with self.subTest(told=told):
                    self.assertEqual(list(told), sorted(told, key=lambda bits: (bin(bits).count("1"), bits)))
                    self.assertEqual(len(set(told)), len(told))
        self.assertGreater(max(seen), 2)

    def test_as_works_tell(self):
        for text in (*TEXTS, GREAT):
            works = read(text)
            tree = tree_of(works)
            many = tree[0]
            with self.subTest(text=text):
                self.assertEqual(cuts(tree), least_ones(many, lambda bits: stops(works, names_in(works, bits))))
                holding = least_ones(many, lambda bits: not stops(works, names_in(works, 2 ** many - 1 - bits)))
                self.assertEqual(keeps(tree), holding)

    def test_each_fails_and_holds_and_is_least(self):
        for tree in trees():
            every = 2 ** tree[0] - 1
            for bits in cuts(tree):
                self.assertIs(falls(tree, bits), True)
                self.assertFalse(any(falls(tree, bits - 2 ** i) for i in range(tree[0]) if bits & 2 ** i))
            for bits in keeps(tree):
                self.assertIs(falls(tree, every - bits), False)
                self.assertTrue(all(falls(tree, every - bits + 2 ** i) for i in range(tree[0]) if bits & 2 ** i))

    def test_each_list_is_what_crosses_the_other(self):
        for tree in trees():
            with self.subTest(tree=tree):
                self.assertEqual(cross(cuts(tree), tree[0]), keeps(tree))
                self.assertEqual(cross(keeps(tree), tree[0]), cuts(tree))

    def test_parts_that_bring_others(self):
        ring = tree_of(read(IN_A_RING))
        self.assertEqual(cuts(ring), (0b010001, 0b010010, 0b010100))
        self.assertEqual(keeps(ring), (0b010000, 0b000111))
        pair = (2, (("part", 0), ("part", 1), ("least", 2, (0, 1))), (3, 2))
        self.assertEqual(cuts(pair), (1,))
        self.assertEqual(keeps(pair), (1,))
        both = (2, (("part", 0), ("part", 1), ("least", 1, (0, 1))), (3, 3))
        self.assertEqual(cuts(both), (1, 2))
        self.assertEqual(keeps(both), (3,))

    def test_a_part_of_a_holding_set_may_be_brought_down(self):
        tree = (3, (("part", 0), ("part", 1), ("part", 2), ("least", 2, (1, 2))), (3, 2, 4))
        self.assertEqual(cuts(tree), (0b101, 0b110))
        self.assertEqual(keeps(tree), (0b100, 0b011))

    def test_rows_of_parts_alone(self):
        self.assertEqual(cuts((1, (("part", 0),), (1,))), (1,))
        self.assertEqual(keeps((1, (("part", 0),), (1,))), (1,))
        rows = (("part", 0), ("part", 1), ("part", 2))
        self.assertEqual(cuts((3, rows, (1, 2, 4))), (4,))
        self.assertEqual(keeps((3, rows, (1, 2, 4))), (4,))
        self.assertEqual(cuts((3, rows, (5, 2, 4))), (1, 4))
        self.assertEqual(keeps((3, rows, (5, 2, 4))), (5,))

    def test_the_most_parts(self):
        rows = tuple(("part", i) for i in range(12))
        brought = tuple(2 ** i for i in range(12))
        tree = (12, rows + (("least", 1, tuple(range(6))), ("least", 2, (12, 6, 7, 8, 9, 10, 11))), brought)
        self.assertEqual(len(cuts(tree)), 6 * 6 + 15)
        self.assertEqual(len(keeps(tree)), 7)

    def test_kinds_and_the_same_each_time(self):
        tree = tree_of(read(SHARED))
        for made in (cuts, keeps):
            told = made(tree)
            self.assertIs(type(told), tuple)
            self.assertEqual({type(bits) for bits in told}, {int})
            self.assertEqual(made(tree), told)
        self.assertEqual(tree, tree_of(read(SHARED)))


class Cross(unittest.TestCase):
    def test_no_sets(self):
        for many in (1, 2, 12):
            self.assertEqual(cross((), many), (0,))

    def test_an_empty_set_among_them(self):
        for told in ((0,), (0, 0), (0, 1), (1, 0), (3, 0, 2)):
            with self.subTest(told=told):
                self.assertEqual(cross(told, 2), ())
                self.assertEqual(cross(told, 12), ())

    def test_one_set(self):
        self.assertEqual(cross((1,), 1), (1,))
        self.assertEqual(cross((0b1011,), 4), (1, 2, 8))
        self.assertEqual(cross((4095,), 12), tuple(2 ** i for i in range(12)))

    def test_several_sets(self):
        self.assertEqual(cross((1, 2), 2), (3,))
        self.assertEqual(cross((3, 12), 4), (5, 6, 9, 10))
        self.assertEqual(cross((3, 6, 5), 3), (3, 5, 6))
        self.assertEqual(cross((0b0011, 0b0110), 4), (0b0010, 0b0101))
        self.assertEqual(cross(tuple(2 ** i for i in range(12)), 12), (4095,))

    def test_like_sets(self):
        self.assertEqual(cross((3, 3), 2), (1, 2))
        self.assertEqual(cross((3, 12, 3, 12, 12), 4), (5, 6, 9, 10))

    def test_sets_one_within_another(self):
        self.assertEqual(cross((3, 7, 15, 2), 4), (2,))
        self.assertEqual(cross((7, 3), 4), (1, 2))
        self.assertEqual(cross((1, 3, 6, 7), 3), (3, 5))

    def test_the_order_of_the_sets_is_all_one(self):
        told = (0b01110, 0b11000, 0b00011, 0b10110)
        self.assertEqual(cross(told, 5), cross(told[::-1], 5))

    def test_by_a_plain_model(self):
        for many in (1, 2, 3):
            singles = range(2 ** many)
            for one in singles:
                for other in singles:
                    for third in singles:
                        told = (one, other, third)
                        self.assertEqual(cross(told, many), least_ones(many, has_part_with_each(told)))
        for told in ((0b110100, 0b011001, 0b101010, 0b000111), (0b111000, 0b000111, 0b010101, 0b101010, 0b110011)):
            self.assertEqual(cross(told, 6), least_ones(6, has_part_with_each(told)))
            self.assertEqual(cross(told, 8), cross(told, 6))

    def test_crossing_twice_tells_the_least_ones(self):
        for told, wanted in (((3, 7, 5), (3, 5)), ((15, 9, 6, 14), (6, 9)), ((4, 2, 1), (1, 2, 4))):
            self.assertEqual(cross(cross(told, 4), 4), wanted)

    def test_kinds(self):
        told = cross((3, 5), 3)
        self.assertIs(type(told), tuple)
        self.assertEqual({type(bits) for bits in told}, {int})

    def test_how_many(self):
        for many in (1, 2, 11, 12):
            self.assertEqual(cross((1,), many), (1,))
        for many in (0, 13, 14, -1, -12, 10 ** 30):
            with self.subTest(many=many):
                self.assertEqual(refusal(cross, (1,), many), ("BadSets",))
                self.assertEqual(refusal(cross, (), many), ("BadSets",))

    def test_how_many_of_anything_else(self):
        for many in [*no_texts(), "", "1", "12"]:
            if many is True or type(many) is not int:
                with self.subTest(many=repr(many)):
                    self.assertEqual(refusal(cross, (1,), many), ("BadSets",))
                    self.assertEqual(refusal(cross, (), many), ("BadSets",))

    def test_sets_of_anything_else(self):
        for thing in [*no_texts(), "", "1", [1], [0], {1}, {1: 1}, iter((1,))]:
            if type(thing) is not tuple:
                with self.subTest(thing=repr(thing)):
                    self.assertEqual(refusal(cross, thing, 3), ("BadSets",))

    def test_a_set_of_anything_else(self):
        for thing in [*no_texts(), "", "1"]:
            if type(thing) is not int:
                for told in ((thing,), (1, thing), (thing, 1), (0, thing)):
                    with self.subTest(told=repr(told)):
                        self.assertEqual(refusal(cross, told, 3), ("BadSets",))

    def test_bounds_of_sets(self):
        for many in (1, 2, 3, 12):
            with self.subTest(many=many):
                self.assertEqual(cross((2 ** many - 1,), many), tuple(2 ** i for i in range(many)))
                for bits in (-1, -2, 2 ** many, 2 ** many + 1, 2 ** 40, -2 ** many):
                    self.assertEqual(refusal(cross, (bits,), many), ("BadSets",))
                    self.assertEqual(refusal(cross, (1, bits), many), ("BadSets",))
                    self.assertEqual(refusal(cross, (0, bits), many), ("BadSets",))

    def test_both_wrong(self):
        for told in ([1], None, (8,), (True,), (-1,)):
            for many in (0, 13, True, None, "3", [3]):
                with self.subTest(told=told, many=many):
                    self.assertEqual(refusal(cross, told, many), ("BadSets",))

    def test_what_is_handed_in_stays_as_it_was(self):
        told = [1, [2]]
        self.assertEqual(refusal(cross, told, 2), ("BadSets",))
        self.assertEqual(told, [1, [2]])


if __name__ == "__main__":
    unittest.main()
