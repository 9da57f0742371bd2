"""Exact shares: (N, D) in lowest terms, D from 1 on."""

from math import gcd

MOST_FIGURES = 400


def is_whole(thing):
    """Tell whether a thing is a whole number."""
    # A truth is an int to Python, but no whole number to the document.
    return isinstance(thing, int) and not isinstance(thing, bool)


def is_share(thing):
    """Tell whether a thing is a share."""
    if not isinstance(thing, tuple) or len(thing) != 2:
        return False
    if not is_whole(thing[0]) or not is_whole(thing[1]):
        return False
    return thing[1] >= 1 and gcd(thing[0], thing[1]) == 1


def share(number, parts):
    """Tell the share that number has of parts, which is not 0."""
    common = gcd(number, parts)
    if parts < 0:
        # The sign belongs to the first number alone.
        common = -common
    return (number // common, parts // common)


def plus(one, other):
    """Tell the sum of two shares."""
    return share(one[0] * other[1] + other[0] * one[1], one[1] * other[1])


def minus(one, other):
    """Tell one share less the other."""
    return share(one[0] * other[1] - other[0] * one[1], one[1] * other[1])


def times(one, other):
    """Tell the product of two shares."""
    return share(one[0] * other[0], one[1] * other[1])


def over(one, other):
    """Tell one share divided by the other, which is not nought."""
    return share(one[0] * other[1], one[1] * other[0])


def less(one, other):
    """Tell whether one share is less than the other."""
    return one[0] * other[1] < other[0] * one[1]


def share_text(one):
    """Write a share as N/D."""
    return f"{one[0]}/{one[1]}"


def figures_in(text):
    """Tell the number that a text of figures writes, None of other texts."""
    if len(text) > MOST_FIGURES:
        return None
    # Without isascii, isdigit would also let by figures of other scripts.
    if not text.isascii() or not text.isdigit():
        return None
    if text[0] == "0" and text != "0":
        return None
    return int(text)


def share_in(text):
    """Tell the share that a text N/D writes, None of anything else."""
    if not isinstance(text, str):
        return None
    # A second bar stays in what is behind the first one, and is no figure.
    ahead, _, behind = text.partition("/")
    number = figures_in(ahead)
    parts = figures_in(behind)
    if number is None or parts is None or parts == 0:
        return None
    return share(number, parts)
