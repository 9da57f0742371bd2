"""Works for the tests to look at, and plain models of what the document says of them."""

from itertools import combinations

from things import many_parts, works_text

ONE = "part a 1/2\ngate g any a\ntop g"
PART_ON_TOP = "part a 1/2\npart b 2/4\ngate g all a b\ntop b"
MIDDLE_ON_TOP = works_text(gates=["gate g all a b", "gate h any g a", "gate i any b"], tops=["top g"])

# A part stands in two gates, and a gate in two others.
SHARED = works_text(
    parts=many_parts(5),
    gates=["gate g 2 p0 p1 p2", "gate h any g p3", "gate i all g p1", "gate j 2 h i p4"], tops=["top j"],
)
IN_A_ROW = works_text(
    parts=many_parts(5), gates=["gate g all p2 p4"], brings=["brings p1 p2", "brings p0 p1", "brings p2 p3"],
)
IN_A_RING = works_text(
    parts=many_parts(6), gates=["gate g 3 p0 p1 p3 p5", "gate h all g p4"],
    brings=["brings p1 p2", "brings p2 p0", "brings p0 p1", "brings p4 p5"], tops=["top h"],
)
UNUSED = works_text(parts=many_parts(4), gates=["gate g any p1"], brings=["brings p3 p1", "brings p0 p2"])
SEVERAL_SIZES = works_text(
    parts=many_parts(6), gates=["gate g all p4 p5", "gate h 3 p0 p1 p2 p3", "gate i any g h p3"], tops=["top i"],
)
GREAT = works_text(
    parts=many_parts(12),
    gates=["gate g 3 p0 p1 p2 p3 p4 p5 p6 p7", "gate h 2 p8 p9 p10 p11", "gate i all g h", "gate j any i p0"],
    brings=["brings p11 p0", "brings p5 p6"], tops=["top j"],
)
TEXTS = (ONE, PART_ON_TOP, MIDDLE_ON_TOP, SHARED, IN_A_ROW, IN_A_RING, UNUSED, SEVERAL_SIZES)


def failing_parts(works, failed):
    """Tell the names of the parts that fail, by those that fail by themselves."""
    fails = set(failed)
    for _ in works[0]:
        fails |= {other for one, other in works[4] if one in fails}
    return fails


def stops(works, failed):
    """Tell whether the works stop where just the parts of these names fail by themselves."""
    fails = failing_parts(works, failed)
    for name, least, children in works[3]:
        if sum(child in fails for child in children) >= least:
            fails.add(name)
    return works[5] in fails


def names_in(works, bits):
    """Tell the names of the parts of a set."""
    return {part[0] for i, part in enumerate(works[0]) if bits & 2 ** i}


def all_sets(many):
    """Tell all sets of so many parts in the order of how many they have, then as numbers."""
    told = []
    for size in range(many + 1):
        told.extend(sorted(sum(2 ** i for i in chosen) for chosen in combinations(range(many), size)))
    return told


def least_ones(many, meets):
    """Tell the sets that meet what is asked and have none within them that does, in their order."""
    found = []
    for bits in all_sets(many):
        if meets(bits) and not any(other & bits == other for other in found):
            found.append(bits)
    return tuple(found)
