"""Works, as a text tells them: first what its rows are, then whether they fit one another."""

from faultwood.errors import BadNumber, BadText, Lacking, Twice
from faultwood.signs import is_name, number_in, odds_in, words_of

MOST_SIGNS = 8000
MOST_ROWS = 400
MOST_CHILDREN = 8
MOST_PARTS_OF_ODDS = 1000
MOST_PRICE = 1000000
MOST_SPARES_OF_PART = 3

# The sorts in the order in which their rows stand, and how many rows of each there may be.
SORTS = ("part", "better", "spare", "gate", "brings", "top")
MOST_OF_SORT = (12, 24, 12, 20, 20, 1)
NEEDED_SORTS = ("part", "gate", "top")

# What the words behind the first one are, in all sorts but gates, which have as many as they like.
FORMS = {
    "part": ("name", "odds"),
    "better": ("name", "odds", "number"),
    "spare": ("name", "number", "number"),
    "brings": ("name", "name"),
    "top": ("name",),
}


def read(text):
    """Tell the works that a text tells."""
    parts, betters, spares, gates, brings, tops = values_by_sort(rows_of(text))
    told_parts = parts_of(parts)
    names = [part[0] for part in told_parts]
    told_betters = betters_of(betters, names)
    told_spares = spares_of(spares, names)
    told_gates = gates_of(gates, names)
    told_brings = brings_of(brings, names)
    top = top_of(tops, names + [gate[0] for gate in told_gates])
    return (told_parts, told_betters, told_spares, told_gates, told_brings, top)


def rows_of(text):
    """Tell the rows of a text that is one, short enough."""
    if not isinstance(text, str) or len(text) > MOST_SIGNS:
        raise BadText(None)
    rows = text.split("\n")
    if len(rows) > MOST_ROWS:
        raise BadText(None)
    return rows


def values_by_sort(rows):
    """Tell for each sort a list of its rows, each with its number and what its words write."""
    found = [[] for _ in SORTS]
    latest = 0
    for at, row in enumerate(rows):
        words = words_of(row)
        if not words:
            continue
        values = values_of(words)
        if values is None:
            raise BadText(at)
        place = SORTS.index(words[0])
        if place < latest or len(found[place]) == MOST_OF_SORT[place]:
            raise BadText(at)
        found[place].append((at, values))
        latest = place
    for sort, told in zip(SORTS, found):
        if sort in NEEDED_SORTS and not told:
            raise BadText(len(rows))
    return found


def values_of(words):
    """Tell what the words of a row write behind the first one, None where they are no row."""
    if words[0] == "gate":
        return gate_in(words)
    if words[0] not in FORMS or len(words) - 1 != len(FORMS[words[0]]):
        return None
    values = [value_in(form, word) for form, word in zip(FORMS[words[0]], words[1:])]
    return None if None in values else values


def value_in(form, word):
    """Tell what a word of this form writes, None where it writes none."""
    if form == "name":
        return word if is_name(word) else None
    if form == "odds":
        return odds_in(word)
    return number_in(word)


def gate_in(words):
    """Tell what the words of a gate write: its name, its K and its children; None where they are no gate."""
    children = words[3:]
    if not 1 <= len(children) <= MOST_CHILDREN:
        return None
    least = least_in(words[2], len(children))
    if least is None or not all(is_name(name) for name in [words[1], *children]):
        return None
    return [words[1], least, children]


def least_in(word, many):
    """Tell the K that a word writes for so many children, None where it writes none."""
    if word == "any":
        return 1
    if word == "all":
        return many
    return number_in(word)


def need_part(at, name, names):
    """Refuse a name that isn't among the names."""
    if name not in names:
        raise Lacking(at, name)


def need_between(at, number, least, most):
    """Refuse a number that is out of bounds."""
    if not least <= number <= most:
        raise BadNumber(at)


def need_odds_between(at, odds):
    """Refuse odds that are no share from 0 to 1, or one of too many parts."""
    need_between(at, odds[1], 1, MOST_PARTS_OF_ODDS)
    need_between(at, odds[0], 0, odds[1])


def parts_of(rows):
    """Tell the parts of works."""
    names = []
    parts = []
    for at, (name, odds) in rows:
        if name in names:
            raise Twice(at, name)
        need_odds_between(at, odds)
        names.append(name)
        parts.append((name, odds[0], odds[1]))
    return tuple(parts)


def betters_of(rows, names):
    """Tell the betters of works with parts of these names."""
    betters = []
    for at, (name, odds, price) in rows:
        need_part(at, name, names)
        need_odds_between(at, odds)
        need_between(at, price, 0, MOST_PRICE)
        betters.append((name, odds[0], odds[1], price))
    return tuple(betters)


def spares_of(rows, names):
    """Tell the spares of works with parts of these names."""
    seen = []
    spares = []
    for at, (name, price, most) in rows:
        need_part(at, name, names)
        if name in seen:
            raise Twice(at, name)
        need_between(at, price, 0, MOST_PRICE)
        need_between(at, most, 1, MOST_SPARES_OF_PART)
        seen.append(name)
        spares.append((name, price, most))
    return tuple(spares)


def gates_of(rows, names):
    """Tell the gates of works with parts of these names."""
    known = list(names)
    gates = []
    for at, (name, least, children) in rows:
        if name in known:
            raise Twice(at, name)
        need_children(at, children, known)
        need_between(at, least, 1, len(children))
        known.append(name)
        gates.append((name, least, tuple(children)))
    return tuple(gates)


def need_children(at, children, known):
    """Refuse children of which one isn't known, or stands there twice."""
    for place, child in enumerate(children):
        need_part(at, child, known)
        if child in children[:place]:
            raise Twice(at, child)


def brings_of(rows, names):
    """Tell which parts' failing brings which, in works with parts of these names."""
    brings = []
    for at, (one, other) in rows:
        need_part(at, one, names)
        need_part(at, other, names)
        if one == other or (one, other) in brings:
            raise Twice(at, one)
        brings.append((one, other))
    return tuple(brings)


def top_of(rows, known):
    """Tell the name of the top of works, which is that of a known part or gate."""
    at, (name,) = rows[0]
    need_part(at, name, known)
    return name
