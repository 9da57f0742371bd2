"""Trees: the rows of parts and gates that works come down to, and which sets of parts make the top fall."""

from faultwood.bits import is_bits, parts_in
from faultwood.errors import BadTree
from faultwood.shares import is_whole, share

MOST_PARTS = 12
MOST_GATES = 21
MOST_CHILDREN = 8


def tree_of(works):
    """Tell the tree of works."""
    parts, _, _, gates, brings, top = works
    names = [part[0] for part in parts]
    rows = [("part", i) for i in range(len(names))]
    places = {name: i for i, name in enumerate(names)}
    for name, least, children in gates:
        places[name] = len(rows)
        rows.append(("least", least, tuple([places[child] for child in children])))
    if places[top] != len(rows) - 1:
        rows.append(("least", 1, (places[top],)))
    pairs = [(places[one], places[other]) for one, other in brings]
    return (len(names), tuple(rows), brought_by(len(names), pairs))


def brought_by(many, pairs):
    """Tell for each of so many parts all that fail where it fails, by pairs of a part and one that it brings."""
    brought = [1 << i for i in range(many)]
    for one, other in pairs:
        brought[one] = brought[one] | (1 << other)
    # After each round all ways that lead through that middle part, or parts ahead of it, are in.
    for middle in range(many):
        for i in range(many):
            if (brought[i] >> middle) & 1:
                brought[i] = brought[i] | brought[middle]
    return tuple(brought)


def odds_of(works):
    """Tell the odds of the parts of works."""
    return tuple([share(number, among) for _, number, among in works[0]])


def is_tree(thing):
    """Tell whether a thing is a tree."""
    if not isinstance(thing, tuple) or len(thing) != 3:
        return False
    many, rows, brought = thing
    if not is_whole(many) or not 1 <= many <= MOST_PARTS:
        return False
    return are_rows(rows, many) and are_brought(brought, many)


def are_rows(thing, many):
    """Tell whether a thing is the rows of a tree of so many parts."""
    if not isinstance(thing, tuple) or not many <= len(thing) <= many + MOST_GATES:
        return False
    if not all([is_part_row(row, i) for i, row in enumerate(thing[:many])]):
        return False
    return all([is_gate_row(row, many + i) for i, row in enumerate(thing[many:])])


def is_part_row(thing, i):
    """Tell whether a thing is the row of part i."""
    if not isinstance(thing, tuple) or len(thing) != 2:
        return False
    return is_word(thing[0], "part") and is_whole(thing[1]) and thing[1] == i


def is_gate_row(thing, at):
    """Tell whether a thing is the row of a gate, where it has this number."""
    if not isinstance(thing, tuple) or len(thing) != 3:
        return False
    word, least, children = thing
    if not is_word(word, "least") or not is_whole(least) or not are_children(children, at):
        return False
    return 1 <= least <= len(children)


def is_word(thing, word):
    """Tell whether a thing is this very word."""
    return isinstance(thing, str) and thing == word


def are_children(thing, at):
    """Tell whether a thing is the children of the row with this number."""
    if not isinstance(thing, tuple) or not 1 <= len(thing) <= MOST_CHILDREN:
        return False
    if not all(is_whole(child) and 0 <= child < at for child in thing):
        return False
    return len(set(thing)) == len(thing)


def are_brought(thing, many):
    """Tell whether a thing is what each of so many parts brings."""
    if not isinstance(thing, tuple) or len(thing) != many:
        return False
    if not all(is_bits(bits, many) for bits in thing):
        return False
    return all([is_closed(bits, i, thing) for i, bits in enumerate(thing)])


def is_closed(bits, i, brought):
    """Tell whether a set has part i, and with each of its parts all that this one brings."""
    return i in parts_in(bits) and all(brought[other] | bits == bits for other in parts_in(bits))


def need_tree(thing):
    """Refuse what is no tree."""
    if not is_tree(thing):
        raise BadTree("this is no tree")


def all_brought(tree, bits):
    """Tell the parts that fail where just those of bits fail by themselves."""
    found = 0
    for i in parts_in(bits):
        found = found | tree[2][i]
    return found


def falls(tree, bits):
    """Tell whether the top falls where just the parts of bits fail by themselves."""
    failing = all_brought(tree, bits)
    fails = []
    for row in tree[1]:
        fails.append(row_fails(row, failing, fails))
    return fails[-1]


def row_fails(row, failing, fails):
    """Tell whether a row fails, by the parts that fail and by whether each of the rows ahead does."""
    if row[0] == "part":
        return (failing >> row[1]) & 1 == 1
    return [fails[child] for child in row[2]].count(True) >= row[1]
