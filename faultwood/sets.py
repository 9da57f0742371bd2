"""Least sets: of parts whose failing stops the works, of those whose holding keeps it going, and crossings."""

from faultwood.bits import all_bits, is_bits, many_in, parts_in
from faultwood.errors import BadSets
from faultwood.shares import is_whole
from faultwood.trees import falls

MOST_PARTS = 12


def cuts(tree):
    """Tell the least failing sets of a tree."""
    return least_of([falls(tree, bits) for bits in range(1 << tree[0])])


def keeps(tree):
    """Tell the least holding sets of a tree."""
    every = all_bits(tree[0])
    return least_of([not falls(tree, every - bits) for bits in range(1 << tree[0])])


def cross(sets, many):
    """Tell the least sets of so many parts that cross all of the sets."""
    if not is_whole(many) or not 1 <= many <= MOST_PARTS:
        raise BadSets("this is no number of parts")
    if not isinstance(sets, tuple) or not all(is_bits(bits, many) for bits in sets):
        raise BadSets("these are no sets of so many parts")
    return least_of([crosses(bits, sets) for bits in range(1 << many)])


def crosses(bits, sets):
    """Tell whether a set has a part with each of the sets."""
    return all(bits & other for other in sets)


def least_of(meets):
    """Tell the least of the sets that meet what is asked, by whether each set does, from the empty one on."""
    found = [bits for bits in range(len(meets)) if is_least(bits, meets)]
    # They stand there as rising numbers, and those of as many parts stay so.
    return tuple(sorted(found, key=many_in))


def is_least(bits, meets):
    """Tell whether a set meets what is asked, and without any one of its parts doesn't."""
    return meets[bits] and not any(meets[bits ^ (1 << i)] for i in parts_in(bits))
