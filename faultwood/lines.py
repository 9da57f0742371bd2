"""Lines: how the odds of the top hang on those of one part."""

from faultwood.odds import NOUGHT, ONE, falling, need_limit, need_odds, need_part_of, odds_of_states, with_odds
from faultwood.shares import less, minus, over


def line_of(tree, odds, i):
    """Tell two shares, A and B, so that the odds of the top are A and B times those of part i."""
    need_odds(tree, odds)
    need_part_of(tree[0], i)
    meets = falling(tree)
    low = odds_of_states(meets, with_odds(odds, i, NOUGHT))
    high = odds_of_states(meets, with_odds(odds, i, ONE))
    return (low, minus(high, low))


def bound_for(tree, odds, i, limit):
    """Tell the greatest odds of part i by which the top's are no more than the limit, None where none are."""
    need_odds(tree, odds)
    need_limit(limit)
    low, rise = line_of(tree, odds, i)
    if less(limit, low):
        return None
    room = minus(limit, low)
    return over(room, rise) if less(room, rise) else ONE
