"""Works for the tests to look at, and plain models of what the document says of them."""

from fractions import Fraction
from functools import lru_cache
from itertools import combinations, product
from random import Random

from things import many_parts, works_text

ONE = "part a 1/2\ngate g any a\ntop g"
PART_ON_TOP = "part a 1/2\npart b 2/4\ngate g all a b\ntop b"
MIDDLE_ON_TOP = works_text(gates=["gate g all a b", "gate h any g a", "gate i any b"], tops=["top g"])

# A part stands in two gates, and a gate in two others.
SHARED = works_text(
    parts=many_parts(5),
    gates=["gate g 2 p0 p1 p2", "gate h any g p3", "gate i all g p1", "gate j 2 h i p4"], tops=["top j"],
)
IN_A_ROW = works_text(
    parts=many_parts(5), gates=["gate g all p2 p4"], brings=["brings p1 p2", "brings p0 p1", "brings p2 p3"],
)
IN_A_RING = works_text(
    parts=many_parts(6), gates=["gate g 3 p0 p1 p3 p5", "gate h all g p4"],
    brings=["brings p1 p2", "brings p2 p0", "brings p0 p1", "brings p4 p5"], tops=["top h"],
)
UNUSED = works_text(parts=many_parts(4), gates=["gate g any p1"], brings=["brings p3 p1", "brings p0 p2"])
SEVERAL_SIZES = works_text(
    parts=many_parts(6), gates=["gate g all p4 p5", "gate h 3 p0 p1 p2 p3", "gate i any g h p3"], tops=["top i"],
)
GREAT = works_text(
    parts=many_parts(12),
    gates=["gate g 3 p0 p1 p2 p3 p4 p5 p6 p7", "gate h 2 p8 p9 p10 p11", "gate i all g h", "gate j any i p0"],
    brings=["brings p11 p0", "brings p5 p6"], tops=["top j"],
)
TEXTS = (ONE, PART_ON_TOP, MIDDLE_ON_TOP, SHARED, IN_A_ROW, IN_A_RING, UNUSED, SEVERAL_SIZES)


def failing_parts(works, failed):
    """Tell the names of the parts that fail, by those that fail by themselves."""
    fails = set(failed)
    for _ in works[0]:
        fails |= {other for one, other in works[4] if one in fails}
    return fails


def stops(works, failed):
    """Tell whether the works stop where just the parts of these names fail by themselves."""
    fails = failing_parts(works, failed)
    for name, least, children in works[3]:
        if sum(child in fails for child in children) >= least:
            fails.add(name)
    return works[5] in fails


def names_in(works, bits):
    """Tell the names of the parts of a set."""
    return {part[0] for i, part in enumerate(works[0]) if bits & 2 ** i}


def all_sets(many):
    """Tell all sets of so many parts in the order of how many they have, then as numbers."""
    told = []
    for size in range(many + 1):
        told.extend(sorted(sum(2 ** i for i in chosen) for chosen in combinations(range(many), size)))
    return told


def least_ones(many, meets):
    """Tell the sets that meet what is asked and have none within them that does, in their order."""
    found = []
    for bits in all_sets(many):
        if meets(bits) and not any(other & bits == other for other in found):
            found.append(bits)
    return tuple(found)


def pair_of(number):
    """Tell the share that a number is."""
    return (Fraction(number).numerator, Fraction(number).denominator)


def set_odds(works, odds, failed):
    """Tell the odds that just the parts of these names fail by themselves."""
    told = Fraction(1)
    for part, one in zip(works[0], odds):
        told *= Fraction(*one) if part[0] in failed else 1 - Fraction(*one)
    return told


def top_odds(works, odds):
    """Tell the share that the odds of the top are, by all sets of parts."""
    sets = [names_in(works, bits) for bits in range(2 ** len(works[0]))]
    return pair_of(sum(set_odds(works, odds, failed) for failed in sets if stops(works, failed)))


def tree_falls(tree, bits):
    """Tell whether the top of a tree falls where just the parts of a set fail by themselves."""
    many, rows, brought = tree

    def fails(at):
        if at < many:
            return any(bits & 2 ** i and brought[i] & 2 ** at for i in range(many))
        return sum(fails(child) for child in rows[at][2]) >= rows[at][1]

    return fails(len(rows) - 1)


def tree_odds(tree, odds):
    """Tell the share that the odds of the top of a tree are, by all sets of parts."""
    total = Fraction(0)
    for bits in range(2 ** tree[0]):
        if tree_falls(tree, bits):
            told = Fraction(1)
            for i, one in enumerate(odds):
                told *= Fraction(*one) if bits & 2 ** i else 1 - Fraction(*one)
            total += told
    return pair_of(total)


def tree_weight(tree, odds, i):
    """Tell the share that the weight of part i of a tree is."""
    failing, holding = [
        Fraction(*tree_odds(tree, odds[:i] + (one,) + odds[i + 1:])) for one in ((1, 1), (0, 1))
    ]
    return pair_of(failing - holding)


def below(tree, at):
    """Tell the numbers of the rows below a row of a tree."""
    told = set()
    if tree[1][at][0] == "least":
        for child in tree[1][at][2]:
            told |= {child} | below(tree, child)
    return told


def gates_alone(tree):
    """Tell the numbers of the rows of the gates that are alone, as point 100 tells it."""
    many, rows, brought = tree
    told = []
    for at in range(many, len(rows)):
        under = below(tree, at)
        asked_within = all(
            number == at or number in under for number in range(many, len(rows)) if under & set(rows[number][2])
        )
        pairs = [(i, j) for i in range(many) for j in range(many) if brought[i] & 2 ** j]
        if asked_within and all((i in under) == (j in under) for i, j in pairs):
            told.append(at)
    return tuple(told)


def closed(brought):
    """Tell what each part brings, with all that these bring in turn."""
    told = list(brought)
    for _ in told:
        for i, bits in enumerate(told):
            for other, more in enumerate(told):
                if bits & 2 ** other:
                    told[i] |= more
    return tuple(told)


def mixed_trees(many, most=6):
    """Tell so many trees of at most so many parts, and odds of their parts, the same ones each time."""
    chance = Random(many + most)
    told = []
    for _ in range(many):
        parts = chance.randint(1, most)
        rows = [("part", i) for i in range(parts)]
        for _ in range(chance.randint(0, 6)):
            children = tuple(chance.sample(range(len(rows)), chance.randint(1, min(4, len(rows)))))
            rows.append(("least", chance.randint(1, len(children)), children))
        pairs = chance.choice((0, 0, 1, 2, 4))
        brought = [2 ** i for i in range(parts)]
        for _ in range(pairs):
            brought[chance.randrange(parts)] |= 2 ** chance.randrange(parts)
        odds = []
        for _ in range(parts):
            among = chance.choice((1, 2, 3, 5, 7, 1000))
            odds.append(pair_of(Fraction(chance.randint(0, among), among)))
        told.append(((parts, tuple(rows), closed(brought)), tuple(odds)))
    return told


def ways(works, i):
    """Tell the prices and odds at which part i may be had."""
    name, number, among = works[0][i]
    own = Fraction(number, among)
    told = [(0, pair_of(own))]
    told += [(row[3], pair_of(Fraction(row[1], row[2]))) for row in works[1] if row[0] == name]
    for row in works[2]:
        if row[0] == name:
            told += [(row[1] * many, pair_of(own ** (many + 1))) for many in range(1, row[2] + 1)]
    return tuple(told)


def all_choices(works):
    """Tell all choices, each with its price and odds."""
    told = []
    for picked in product(*[list(enumerate(ways(works, i))) for i in range(len(works[0]))]):
        price = sum(way[0] for _, way in picked)
        told.append((tuple(c for c, _ in picked), price, tuple(way[1] for _, way in picked)))
    return told


@lru_cache(maxsize=None)
def priced_odds(works):
    """Tell of all choices the price and the top's odds."""
    many = len(works[0])
    stopping = [int(stops(works, names_in(works, bits))) for bits in range(2 ** many)]
    told = []
    for _, price, odds in all_choices(works):
        found = stopping
        for one in odds[::-1]:
            half = len(found) // 2
            share = Fraction(*one)
            found = [low + share * (high - low) for low, high in zip(found[:half], found[half:])]
        told.append((price, found[0]))
    return told


def least_price(works, limit):
    """Tell the least price at which the top's odds are no more than the limit, None where no choices do."""
    return min((price for price, odds in priced_odds(works) if odds <= Fraction(*limit)), default=None)
