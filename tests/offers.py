"""Works with betterings and spares for the tests to look at."""

BOUGHT = """
part a 2/4
part b 3/9
part c 2/5
part d 1/6
better a 1/10 30
better c 1/5 4
better a 4/12 7
spare b 20 3
spare a 5 2
gate g any a b
gate h all c d
gate i any g h
top i
"""
NOTHING_FOR_SALE = "part a 1/2\ngate g any a\ntop g"
FREE = "part a 1/2\npart b 2/3\nbetter a 1/3 0\nbetter b 1/9 6\nspare a 6 1\nspare b 0 2\ngate g any a b\ntop a"
WORSE = """
part a 1/3
part b 1/2
better a 2/3 5
better a 3/3 0
better a 2/9 5
better b 2/3 1
better b 5/9 0
spare b 7 1
gate g all a b
top g
"""
# A ring of parts that bring one another, and one that brings a part of it.
RING = """
part a 1/4
part b 1/5
part c 1/6
part d 1/7
better a 1/40 9
better b 1/50 9
better d 0/1 3
spare c 4 3
spare a 2 1
gate g 2 a b d
gate h any g c
brings a b
brings b a
brings d c
top h
"""
# A gate of each kind, some shared.
KINDS = """
part a 1/3
part b 1/4
part c 1/5
part d 1/6
part e 1/7
better a 1/30 11
better c 1/50 13
better e 1/70 17
spare a 6 1
spare b 5 2
spare d 8 1
gate g 2 a b c
gate h all c d
gate i any h e
gate j 2 g h i
gate k any j h
brings e d
top k
"""
SAME_PRICES = """
part a 1/2
part b 1/2
part c 1/2
better a 1/4 5
better b 1/4 5
better c 1/4 5
spare a 5 1
spare b 5 1
spare c 5 1
gate g 2 a b c
top g
"""
OFFERS = (BOUGHT, NOTHING_FOR_SALE, FREE, WORSE, RING, KINDS, SAME_PRICES)


def works_of_seven(betters, spares):
    """Tell a text of works of seven parts with so many betters and spares of each."""
    rows = [f"part p{i} {i + 2}/{3 * i + 7}" for i in range(7)]
    for i, many in enumerate(betters):
        rows += [f"better p{i} {j + 1}/{9 * j + 8 * i + 11} {(7 * i + 5 * j) % 11 + 2}" for j in range(many)]
    rows += [f"spare p{i} {(3 * i) % 5 + 1} {many}" for i, many in enumerate(spares) if many]
    rows += ["gate g 2 p0 p1 p2", "gate h all p3 p4", "gate i 2 g h p5", "gate j any i p6", "brings p4 p5", "top j"]
    return "\n".join(rows)


MANY_WAYS = works_of_seven((1, 1, 1, 1, 1, 2, 0), (1, 1, 1, 1, 1, 0, 3))
MOST_WAYS = works_of_seven((3, 3, 4, 1, 2, 1, 0), (1, 1, 0, 0, 0, 0, 1))
TOO_MANY_WAYS = works_of_seven((3, 3, 3, 3, 3, 3, 3), (3, 3, 3, 3, 3, 3, 3))
MANY_PARTS = "\n".join(
    [f"part p{i} 1/3" for i in range(9)]
    + [f"better p{i} 1/9 {i}" for i in range(9)]
    + ["gate g 3 p0 p1 p2 p3 p4 p5 p6 p7", "gate h any g p8", "top h"]
)
