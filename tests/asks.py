"""Questions for the tests to look at, and plain models of what the document says of them."""

from functools import lru_cache
from random import Random


def singles(many):
    """Tell the questions that ask of each part but the last one by itself."""
    return tuple(2 ** i for i in range(many - 1))


HALVES = (0b10101010, 0b11001100, 0b11110000)

# So many parts and questions by which the failed one is found, with the least count in the worst case.
COUNTED = (
    (1, (0,), 0),
    (1, (1, 0, 1), 0),
    (2, (1,), 1),
    (2, (2, 2, 3, 0), 1),
    (2, (0, 3, 1), 1),
    (3, (1, 2), 2),
    (3, (1, 2, 4, 3, 5, 6), 2),
    (4, (0b0101, 0b0011), 2),
    (4, (1, 2, 4), 3),
    (4, (1, 2, 0b0110), 2),
    (4, (1, 2, 0b0111), 3),
    (4, (1, 3, 0b0101), 2),
    (5, singles(5), 4),
    (5, (0b00011, 0b00101, 0b10000), 3),
    (6, (0b000111, 0b001011, 0b010101, 0b100000), 3),
    (7, (0b1111, 0b0110011, 0b1010101), 3),
    (8, HALVES, 3),
    (8, singles(8), 7),
    (8, singles(8)[:4] + (0b1010101, 0b0110011, 0b0001111), 3),
    (8, (0b1111, 0b0101, 0b0011, 0b10000, 0b100000, 0b1000000), 4),
    (8, (0,) * 4 + HALVES, 3),
    (8, HALVES + (255, 0) + HALVES, 3),
)
NOT_FOUND = (
    (2, (0,)), (2, (3,)), (2, (0, 3, 0)), (3, (1,)), (3, (3, 4)), (4, (1, 2, 3)), (4, (0b0101, 0b1010)), (5, (1, 2, 4)),
    (8, HALVES[:2]), (8, singles(8)[:6]), (8, (0b11111100, 3)), (9, (1,)), (12, (1, 2)), (12, (1,) * 12), (3, (1,) * 9),
)


@lru_cache(maxsize=None)
def least_within(parts, questions):
    """Tell by how many questions the failed one of these parts is found at the least, None where it can't be."""
    if len(parts) == 1:
        return 0
    found = []
    for asked in questions:
        yes = frozenset(i for i in parts if asked & 2 ** i)
        if yes and yes != parts:
            counts = [least_within(yes, questions), least_within(parts - yes, questions)]
            if None not in counts:
                found.append(1 + max(counts))
    return min(found, default=None)


def mixed_questions(tries):
    """Tell numbers of parts and questions about so many, the same ones each time."""
    chance = Random(tries)
    told = []
    for _ in range(tries):
        many = chance.randint(1, 8)
        of_one = [2 ** i for i in range(many)]
        told.append((many, tuple(
            chance.choice((chance.choice(of_one), chance.randrange(2 ** many), 2 ** many - 1 - chance.choice(of_one)))
            for _ in range(chance.randint(1, 8))
        )))
    return told


def walk(questions, tree, i):
    """Tell which part a tree tells where part i has failed, and by how many questions."""
    if tree[0] == "is":
        return (tree[1], 0)
    part, count = walk(questions, tree[2 if questions[tree[1]] & 2 ** i else 3], i)
    return (part, count + 1)


def shows(questions, parts, count, shown):
    """Tell whether a thing shows that the parts can't be found by so many questions, as point 81 tells it."""
    if type(shown) is not tuple or not shown or type(shown[0]) is not str:
        return False
    if shown == ("many",):
        return len(parts) > 2 ** count
    if shown[0] == "alike" and len(shown) == 3 and type(shown[1]) is int and type(shown[2]) is int:
        _, i, j = shown
        return i < j and {i, j} <= parts and all(asked >> i & 1 == asked >> j & 1 for asked in questions)
    if shown[0] != "cases" or len(shown) != 2 or type(shown[1]) is not tuple or count == 0 or not shown[1]:
        return False
    if not all(type(branch) is tuple and len(branch) == 3 for branch in shown[1]):
        return False
    if not all(type(q) is int and type(side) is int and side in (0, 1) for q, side, _ in shown[1]):
        return False
    among = [{i for i in parts if asked >> i & 1} for asked in questions]
    if [q for q, _, _ in shown[1]] != [q for q, told in enumerate(among) if told and told != parts]:
        return False
    return all(
        shows(questions, among[q] if side else parts - among[q], count - 1, told) for q, side, told in shown[1]
    )
