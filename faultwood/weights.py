"""Weights: how much each part matters."""

from math import lcm

from faultwood.odds import NOUGHT, ONE, falling, need_odds, need_part_of, odds_of_states, with_odds
from faultwood.shares import minus


def weight_of(tree, odds, i):
    """Tell the weight of part i."""
    need_odds(tree, odds)
    need_part_of(tree[0], i)
    return weight_in(falling(tree), odds, i)


def weight_in(meets, odds, i):
    """Tell the weight of part i, by whether the top falls with each set of parts."""
    failing = odds_of_states(meets, with_odds(odds, i, ONE))
    holding = odds_of_states(meets, with_odds(odds, i, NOUGHT))
    return minus(failing, holding)


def all_weights(tree, odds):
    """Tell a list of the weights of all parts."""
    meets = falling(tree)
    return [weight_in(meets, odds, i) for i in range(tree[0])]


def order_of(tree, odds):
    """Tell the numbers of all parts by falling weights."""
    need_odds(tree, odds)
    return order_by(all_weights(tree, odds))


def order_by(weights):
    """Tell the numbers of parts by their falling weights, of like ones by their numbers."""
    common = 1
    for weight in weights:
        common = lcm(common, weight[1])
    heights = [weight[0] * (common // weight[1]) for weight in weights]
    # Those of like weights stay in the order of their numbers.
    return tuple(sorted(range(len(weights)), key=lambda i: -heights[i]))
