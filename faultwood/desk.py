"""A desk: works gone through by lines, each of which is answered by a text."""

from faultwood.alone import alone
from faultwood.asking import least_asked
from faultwood.bits import parts_in
from faultwood.errors import BadLine, BadSets, NoPlan, TooMany
from faultwood.lines import bound_for, line_of
from faultwood.odds import is_odds, odds_by_states, with_odds
from faultwood.reading import read
from faultwood.sets import cuts, keeps
from faultwood.shares import share_in, share_text
from faultwood.spares import cheapest, chosen
from faultwood.trees import falls, odds_of, tree_of
from faultwood.weights import all_weights, order_by

# What the words behind the first one are, in all lines but those with as many names as they like.
FORMS = {
    "odds": (), "cuts": (), "keeps": (), "weights": (), "alone": (), "state": (), "plain": (), "undo": (),
    "put": ("name", "share"), "cheapest": ("share",), "line": ("name",), "bound": ("name", "share"),
}


def tell_odds(desk, values):
    """Answer odds."""
    return share_text(odds_by_states(desk.tree, desk.odds))


def tell_cuts(desk, values):
    """Answer cuts."""
    return sets_text(desk, cuts(desk.tree))


def tell_keeps(desk, values):
    """Answer keeps."""
    return sets_text(desk, keeps(desk.tree))


def sets_text(desk, sets):
    """Write sets of parts by their names."""
    return " | ".join([" ".join([desk.names[i] for i in parts_in(bits)]) for bits in sets])


def tell_weights(desk, values):
    """Answer weights."""
    weights = all_weights(desk.tree, desk.odds)
    return ", ".join([f"{desk.names[i]} {share_text(weights[i])}" for i in order_by(weights)])


def tell_alone(desk, values):
    """Answer alone."""
    gates = [gate[0] for gate in desk.works[3]]
    # The row that the tree may have behind those of the gates stands there for the top.
    rows = desk.names + gates + ["top"]
    return " ".join([rows[at] for at in alone(desk.tree)]) or "-"


def tell_state(desk, values):
    """Answer state."""
    return ", ".join([f"{name} {share_text(one)}" for name, one in zip(desk.names, desk.odds)])


def tell_line(desk, values):
    """Answer line, of a part."""
    low, rise = line_of(desk.tree, desk.odds, values[0])
    return f"{share_text(low)} {share_text(rise)}"


def tell_bound(desk, values):
    """Answer bound, of a part and a limit."""
    bound = bound_for(desk.tree, desk.odds, values[0], values[1])
    return "none" if bound is None else share_text(bound)


def do_put(desk, values):
    """Answer put, of a part and its odds."""
    desk.change(with_odds(desk.odds, values[0], values[1]))
    return "done"


def do_plain(desk, values):
    """Answer plain."""
    desk.change(odds_of(desk.works))
    return "done"


def do_undo(desk, values):
    """Answer undo."""
    if not desk.past:
        return "nothing"
    desk.odds = desk.past.pop()
    return "done"


def do_cheapest(desk, values):
    """Answer cheapest, of a limit."""
    try:
        price, choices, _ = cheapest(desk.works, values[0])
    except NoPlan:
        return "none"
    except TooMany:
        return "too many"
    desk.change(chosen(desk.works, choices)[1])
    told = " ".join([str(c) for c in choices])
    return f"{price}: {told}"


ANSWERS = {
    "odds": tell_odds, "cuts": tell_cuts, "keeps": tell_keeps, "weights": tell_weights, "alone": tell_alone,
    "state": tell_state, "plain": do_plain, "undo": do_undo, "put": do_put, "cheapest": do_cheapest,
    "line": tell_line, "bound": tell_bound,
}


class Desk:
    """Works, the odds that their parts have now, and those ahead of each change."""

    def __init__(self, text):
        self.works = read(text)
        self.tree = tree_of(self.works)
        self.names = [part[0] for part in self.works[0]]
        self.odds = odds_of(self.works)
        self.past = []

    def told(self, line):
        """Answer a line."""
        if not isinstance(line, str):
            raise BadLine("this is no text")
        words = line.split(" ")
        word = words[0]
        behind = words[1:]
        if word == "fall":
            return self.told_fall(behind)
        if word == "tests" and behind:
            return self.told_tests(behind)
        if word not in FORMS or len(behind) != len(FORMS[word]):
            return "bad line"
        values = [self.value_in(form, written) for form, written in zip(FORMS[word], behind)]
        # In all forms the name stands ahead of the share, as its refusal does.
        for form, value in zip(FORMS[word], values):
            if value is None:
                return "bad name" if form == "name" else "bad odds"
        answer = ANSWERS[word]
        return answer(self, values)

    def value_in(self, form, word):
        """Tell the part's number or the share from 0 to 1 that a word tells, None where it tells none."""
        if form == "name":
            return self.names.index(word) if word in self.names else None
        one = share_in(word)
        return one if is_odds(one) else None

    def change(self, odds):
        """Give the parts other odds."""
        self.past.append(self.odds)
        self.odds = odds

    def bits_of(self, words):
        """Tell the set of the parts of these names, None where one is no part's or stands there twice."""
        found = 0
        for word in words:
            if word not in self.names:
                return None
            bit = 1 << self.names.index(word)
            if found & bit:
                return None
            found = found | bit
        return found

    def told_fall(self, words):
        """Answer fall, of parts."""
        bits = self.bits_of(words)
        if bits is None:
            return "bad name"
        return "stops" if falls(self.tree, bits) else "goes on"

    def told_tests(self, words):
        """Answer tests, of questions."""
        questions = [self.bits_of(asked.split(" ")) for asked in " ".join(words).split(" / ")]
        if None in questions:
            return "bad name"
        try:
            count, _, _ = least_asked(len(self.names), tuple(questions))
        except BadSets:
            return "bad tests"
        except NoPlan:
            return "none"
        except TooMany:
            return "too many"
        return str(count)


def answered(text, lines):
    """Tell a list of the answers of a list of lines, at a desk made anew."""
    desk = Desk(text)
    if not isinstance(lines, list):
        raise BadLine("these are no lines")
    return [desk.told(line) for line in lines]
