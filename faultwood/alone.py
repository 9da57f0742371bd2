"""Gates that stand alone: they fail by odds of their own, so one part may take the place of each."""

from faultwood.bits import parts_in
from faultwood.odds import need_odds, odds_by_states


def alone(tree):
    """Tell the numbers of the rows of all gates that are alone, rising."""
    below = rows_below(tree)
    return tuple([at for at in range(tree[0], len(tree[1])) if is_alone(tree, below, at)])


def asked_rows(row):
    """Tell the rows that a row asks, as a row of bits."""
    found = 0
    if row[0] == "least":
        for child in row[2]:
            found = found | (1 << child)
    return found


def rows_below(tree):
    """Tell a list of what stands below each row, as rows of bits; the bits of parts are those of their rows."""
    below = []
    for row in tree[1]:
        asked = asked_rows(row)
        found = asked
        for child in parts_in(asked):
            found = found | below[child]
        below.append(found)
    return below


def is_alone(tree, below, at):
    """Tell whether a gate's row is alone."""
    under = below[at]
    within = under | (1 << at)
    for asking, row in enumerate(tree[1]):
        if asked_rows(row) & under and not (within >> asking) & 1:
            return False
    for i, brought in enumerate(tree[2]):
        if (under >> i) & 1:
            if brought & under != brought:
                return False
        elif brought & under:
            return False
    return True


def odds_by_alone(tree, odds):
    """Tell the odds of the top by putting a part in the place of each gate below it that is alone."""
    need_odds(tree, odds)
    top = len(tree[1]) - 1
    below = rows_below(tree)
    gates = [at for at in alone(tree) if (below[top] >> at) & 1]
    found = list(odds) + [None] * (len(tree[1]) - tree[0])
    # They rise, so the odds of those within a gate are found ahead of it.
    for at in gates + [top]:
        found[at] = odds_of_row(tree, found, gates, at)
    return found[top]


def odds_of_row(tree, found, gates, at):
    """Tell the odds of the top or of a gate alone, by those found of the parts and of the gates alone within it."""
    leaves, asking = rows_for(tree, gates, at)
    return odds_by_states(lesser_tree(tree, leaves, asking), tuple([found[leaf] for leaf in leaves]))


def rows_for(tree, gates, at):
    """Tell on which parts and gates alone a row hangs, and the gates from these up to it; both lists, rising."""
    wanted = 1 << at
    asking = []
    leaves = 0
    for number in reversed(range(at + 1)):
        if not (wanted >> number) & 1:
            continue
        row = tree[1][number]
        if row[0] == "part" or (number in gates and number != at):
            leaves = leaves | (1 << number)
        else:
            asking.append(number)
            wanted = wanted | asked_rows(row)
    return (parts_in(leaves | bringing(tree, leaves)), asking[::-1])


def bringing(tree, bits):
    """Tell the parts that bring one of the parts among these bits."""
    found = 0
    for i, brought in enumerate(tree[2]):
        if brought & bits:
            found = found | (1 << i)
    return found


def lesser_tree(tree, leaves, asking):
    """Tell the tree of these rows, in which each of the leaves is a part."""
    places = {number: place for place, number in enumerate(leaves + asking)}
    rows = [("part", place) for place in range(len(leaves))]
    for number in asking:
        _, least, children = tree[1][number]
        rows.append(("least", least, tuple([places[child] for child in children])))
    brought = [brought_among(tree, leaves, leaf) for leaf in leaves]
    return (len(leaves), tuple(rows), tuple(brought))


def brought_among(tree, leaves, leaf):
    """Tell which of the leaves fail where one of them does, by their places."""
    # What a gate alone has below it brings nothing that isn't, so a part in its place brings itself alone.
    bits = tree[2][leaf] if leaf < tree[0] else 1 << leaf
    found = 0
    for place, other in enumerate(leaves):
        if (bits >> other) & 1:
            found = found | (1 << place)
    return found
