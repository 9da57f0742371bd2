"""Sets of parts as rows of bits: part i is in one where its bit 2 ** i is 1."""

from faultwood.shares import is_whole


def all_bits(many):
    """Tell the set of all of so many parts."""
    return (1 << many) - 1


def is_bits(thing, many):
    """Tell whether a thing is a set of so many parts."""
    return is_whole(thing) and 0 <= thing <= all_bits(many)


def parts_in(bits):
    """Tell the numbers of the parts of a set, rising."""
    return [i for i in range(bits.bit_length()) if (bits >> i) & 1]


def many_in(bits):
    """Tell how many parts a set has."""
    return len(parts_in(bits))
