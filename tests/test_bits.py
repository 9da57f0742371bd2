import unittest

from faultwood.bits import all_bits, is_bits, many_in, parts_in
from things import no_texts


class Bits(unittest.TestCase):
    def test_all(self):
        self.assertEqual([all_bits(many) for many in (0, 1, 2, 3, 12)], [0, 1, 3, 7, 4095])

    def test_what_is_a_set_of_so_many(self):
        for many in (1, 2, 3, 12):
            for bits in (0, 1, 2 ** many - 1):
                self.assertIs(is_bits(bits, many), True)
            for bits in (-1, 2 ** many, 2 ** many + 1, -2 ** many):
                self.assertIs(is_bits(bits, many), False)

    def test_anything_else_is_none(self):
        for thing in no_texts() + ["", "0", "1"]:
            if type(thing) is not int:
                with self.subTest(thing=repr(thing)):
                    self.assertIs(is_bits(thing, 12), False)

    def test_parts(self):
        for bits, wanted in ((0, []), (1, [0]), (2, [1]), (3, [0, 1]), (8, [3]), (2049, [0, 11])):
            self.assertEqual(parts_in(bits), wanted)
            self.assertEqual(many_in(bits), len(wanted))


if __name__ == "__main__":
    unittest.main()
