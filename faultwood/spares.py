"""The cheapest betterings and spares for told odds, and what shows that none cheaper do."""

from faultwood.errors import BadOdds, NoPlan, TooMany
from faultwood.odds import falling, is_part_of, need_limit, need_part_of, odds_of_states
from faultwood.shares import is_whole, less, share, times
from faultwood.trees import is_word, tree_of

MOST_CHOICES = 3000


def choices_of(works, i):
    """Tell the ways in which part i may be had, a price and odds of each."""
    need_part_of(len(works[0]), i)
    return ways_of(works, works[0][i])


def ways_of(works, part):
    """Tell the ways in which a part of works may be had: as it is, bettered, with spares."""
    name = part[0]
    own = share(part[1], part[2])
    ways = [(0, own)]
    ways.extend([(price, share(number, among)) for better, number, among, price in works[1] if better == name])
    for spare, price, most in works[2]:
        if spare == name:
            ways.extend(ways_with_spares(own, price, most))
    return tuple(ways)


def ways_with_spares(own, price, most):
    """Tell the ways in which a part of these odds may be had with one spare and more."""
    ways = []
    odds = own
    for many in range(1, most + 1):
        odds = times(odds, own)
        ways.append((many * price, odds))
    return ways


def all_ways(works):
    """Tell a list of the ways of each part."""
    return [ways_of(works, part) for part in works[0]]


def chosen(works, choices):
    """Tell what choices cost together, and which odds they give the parts."""
    ways = all_ways(works)
    if not are_choices(ways, choices):
        raise BadOdds("these are no choices")
    return (price_of(ways, choices), odds_with(ways, choices))


def are_choices(ways, thing):
    """Tell whether a thing is a number of a way for each part."""
    if not isinstance(thing, tuple) or len(thing) != len(ways):
        return False
    return all([is_part_of(c, len(told)) for c, told in zip(thing, ways)])


def price_of(ways, choices):
    """Tell what choices cost together."""
    return sum([told[c][0] for c, told in zip(choices, ways)])


def odds_with(ways, choices):
    """Tell the odds that choices give the parts."""
    return tuple([told[c][1] for c, told in zip(choices, ways)])


def least_odds(ways):
    """Tell the least odds that any of a part's ways has."""
    found = ways[0][1]
    for _, odds in ways:
        if less(odds, found):
            found = odds
    return found


def cheapest(works, limit):
    """Tell the least price for odds of the top no more than the limit, choices for it, and what shows it."""
    need_limit(limit)
    ways = all_ways(works)
    meets = falling(tree_of(works))
    if less(limit, odds_of_states(meets, [least_odds(told) for told in ways])):
        raise NoPlan("even the least odds of all parts are too much")
    if many_choices(ways) > MOST_CHOICES:
        raise TooMany("there are too many choices to go through")
    choices = first_choices(ways, meets, limit)
    price = price_of(ways, choices)
    cheaper = Cheaper(ways, meets, limit, price)
    return (price, choices, None if price == 0 else cheaper.shown((None,) * len(ways), 0))


def many_choices(ways):
    """Tell how many choices there are in all."""
    many = 1
    for told in ways:
        many = many * len(told)
    return many


def first_choices(ways, meets, limit):
    """Tell the first choices, by rising prices, by which the top's odds are no more than the limit."""
    rising = rising_choices(ways)
    at = 0
    # The least odds of all parts do, so this ends.
    while less(limit, odds_of_states(meets, odds_with(ways, rising[at]))):
        at += 1
    return rising[at]


def rising_choices(ways):
    """Tell all choices by rising prices."""
    found = [()]
    for told in ways:
        found = [choices + (c,) for choices in found for c in range(len(told))]
    return sorted(found, key=lambda choices: price_of(ways, choices))


def shows_cheapest(works, limit, price, shown):
    """Tell whether a thing shows that no choices cheaper than the price do."""
    need_limit(limit)
    if not is_whole(price) or price < 0:
        raise BadOdds("this is no price")
    if price == 0:
        return shown is None
    ways = all_ways(works)
    cheaper = Cheaper(ways, falling(tree_of(works)), limit, price)
    return cheaper.shows((None,) * len(ways), shown)


class Cheaper:
    """What shows that no choices cheaper than a price do; given holds each part's way, None of those without one."""

    def __init__(self, ways, meets, limit, price):
        self.ways = ways
        self.meets = meets
        self.limit = limit
        self.price = price
        self.least = [least_odds(told) for told in ways]

    def is_dear(self, given):
        """Tell whether the given ways cost the price or more."""
        return sum([told[c][0] for c, told in zip(given, self.ways) if c is not None]) >= self.price

    def is_high(self, given):
        """Tell whether the top's odds are above the limit, with the least odds of the parts without a way."""
        odds = [self.least[i] if c is None else self.ways[i][c][1] for i, c in enumerate(given)]
        return less(self.limit, odds_of_states(self.meets, odds))

    def shown(self, given, i):
        """Tell what shows it where just the parts ahead of part i are given ways."""
        if self.is_dear(given):
            return ("dear",)
        if self.is_high(given):
            return ("high",)
        branches = [(c, self.shown(with_way(given, i, c), i + 1)) for c in range(len(self.ways[i]))]
        return ("cases", i, tuple(branches))

    def shows(self, given, thing):
        """Tell whether a thing shows it of the given ways."""
        if not isinstance(thing, tuple) or len(thing) not in (1, 3):
            return False
        if len(thing) == 3:
            return is_word(thing[0], "cases") and self.shows_cases(given, thing[1], thing[2])
        if is_word(thing[0], "dear"):
            return self.is_dear(given)
        return is_word(thing[0], "high") and self.is_high(given)

    def shows_cases(self, given, i, branches):
        """Tell whether branches show it of each way for part i."""
        if not is_part_of(i, len(given)) or given[i] is not None:
            return False
        if not isinstance(branches, tuple) or len(branches) != len(self.ways[i]):
            return False
        for c, branch in enumerate(branches):
            if not self.shows_branch(given, i, c, branch):
                return False
        return True

    def shows_branch(self, given, i, c, branch):
        """Tell whether a branch shows it of way c for part i."""
        if not isinstance(branch, tuple) or len(branch) != 2:
            return False
        if not is_whole(branch[0]) or branch[0] != c:
            return False
        return self.shows(with_way(given, i, c), branch[1])


def with_way(given, i, c):
    """Tell the given ways with way c for part i."""
    return given[:i] + (c,) + given[i + 1:]
