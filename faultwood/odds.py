"""The odds of the top: by all sets of parts, by parting the cases of the parts, and by the least failing sets."""

from faultwood.bits import all_bits, parts_in
from faultwood.errors import BadOdds
from faultwood.sets import cuts
from faultwood.shares import is_share, is_whole, minus, plus, share, times
from faultwood.trees import falls

NOUGHT = (0, 1)
ONE = (1, 1)


def is_odds(thing):
    """Tell whether a thing is a share from 0 to 1."""
    return is_share(thing) and 0 <= thing[0] <= thing[1]


def need_odds(tree, odds):
    """Refuse what are no odds of the parts of a tree."""
    if not isinstance(odds, tuple) or len(odds) != tree[0]:
        raise BadOdds("these are no shares, one for each part")
    if not all(is_odds(one) for one in odds):
        raise BadOdds("one of these is no share from 0 to 1")


def need_limit(limit):
    """Refuse what is no share from 0 to 1."""
    if not is_odds(limit):
        raise BadOdds("this is no share from 0 to 1")


def is_part_of(thing, many):
    """Tell whether a thing is the number of one of so many parts."""
    return is_whole(thing) and 0 <= thing < many


def need_part_of(many, i):
    """Refuse what is no number of one of so many parts."""
    if not is_part_of(i, many):
        raise BadOdds("this is no number of a part")


def with_odds(odds, i, one):
    """Tell these odds with other ones for part i."""
    return odds[:i] + (one,) + odds[i + 1:]


def falling(tree):
    """Tell of each set of parts, from the empty one on, whether the top falls with it."""
    return [falls(tree, bits) for bits in range(1 << tree[0])]


def odds_of_states(meets, odds):
    """Tell the odds that just a set of parts fails that meets what is asked, by whether each set does."""
    # Of each set the numerator of its odds, over the product of all divisors.
    numbers = [1]
    parts = 1
    for number, among in odds:
        numbers = [one * (among - number) for one in numbers] + [one * number for one in numbers]
        parts = parts * among
    return share(sum([one for one, does in zip(numbers, meets) if does]), parts)


def odds_by_states(tree, odds):
    """Tell the odds of the top by going through all sets of parts."""
    need_odds(tree, odds)
    return odds_of_states(falling(tree), odds)


def odds_by_parting(tree, odds):
    """Tell the odds of the top by parting the cases of one part after the other."""
    need_odds(tree, odds)
    return odds_from(tree, odds, 0, 0)


def odds_from(tree, odds, i, failed):
    """Tell the odds of the top where of the parts ahead of part i just those of a set fail by themselves."""
    if falls(tree, failed):
        return ONE
    if not falls(tree, failed | (all_bits(tree[0]) - all_bits(i))):
        return NOUGHT
    fails = times(odds[i], odds_from(tree, odds, i + 1, failed | (1 << i)))
    holds = times(minus(ONE, odds[i]), odds_from(tree, odds, i + 1, failed))
    return plus(fails, holds)


def odds_by_sets(tree, odds):
    """Tell the odds of the top by the least failing sets alone."""
    need_odds(tree, odds)
    spared = NOUGHT
    for bits, count in counted_unions(cuts(tree)).items():
        spared = plus(spared, times((count, 1), odds_of_all(bits, odds)))
    return minus(ONE, spared)


def counted_unions(sets):
    """Tell of each union of some of the sets how often it is one of an even number of them, less of an odd one."""
    # By these counts the odds of the unions come to the odds that none of the sets fails whole.
    counts = {0: 1}
    for bits in sets:
        for union, count in list(counts.items()):
            counts[union | bits] = counts.get(union | bits, 0) - count
    return counts


def odds_of_all(bits, odds):
    """Tell the odds that all parts of a set fail by themselves."""
    found = ONE
    for i in parts_in(bits):
        found = times(found, odds[i])
    return found
