import unittest
from fractions import Fraction
from random import Random

from faultwood.alone import odds_by_alone
from faultwood.asking import asked_by, least_asked, shows_asked
from faultwood.desk import Desk, answered
from faultwood.lines import bound_for, line_of
from faultwood.odds import odds_by_parting, odds_by_sets, odds_by_states
from faultwood.reading import read
from faultwood.sets import cross, cuts, keeps
from faultwood.shares import less, plus, share_text, times
from faultwood.showing import shown
from faultwood.spares import cheapest, choices_of, chosen, shows_cheapest
from faultwood.trees import falls, is_tree, odds_of, tree_of
from faultwood.weights import order_of, weight_of
from models import all_sets, least_price, names_in, stops, top_odds
from things import refusal


def mixed_works(many):
    """Tell so many texts of works of at most six parts, the same ones each time."""
    chance = Random(many)
    told = []
    for _ in range(many):
        names = [f"p{i}" for i in range(chance.randint(1, 6))]
        rows = []
        for name in names:
            among = chance.choice((2, 3, 7, 10, 1000))
            rows.append(f"part {name} {chance.randint(0, among)}/{among}")
        for _ in range(chance.randint(0, 5)):
            rows.append(f"better {chance.choice(names)} {chance.randint(0, 5)}/{chance.randint(5, 60)} {chance.randint(0, 20)}")
        for name in chance.sample(names, chance.randint(0, min(3, len(names)))):
            rows.append(f"spare {name} {chance.randint(0, 9)} {chance.randint(1, 3)}")
        known = list(names)
        for i in range(chance.randint(1, 6)):
            children = chance.sample(known, chance.randint(1, min(4, len(known))))
            least = chance.choice(["any", "all", chance.randint(1, len(children))])
            rows.append(f"gate g{i} {least} {' '.join(children)}")
            known.append(f"g{i}")
        pairs = [(one, other) for one in names for other in names if one != other]
        for one, other in chance.sample(pairs, min(len(pairs), chance.choice((0, 0, 1, 2, 3)))):
            rows.append(f"brings {one} {other}")
        rows.append(f"top {chance.choice([known[-1]] * 3 + known)}")
        told.append("\n".join(rows))
    return told


WORKS = mixed_works(60)


class TheWholeProgram(unittest.TestCase):
    def test_works_are_shown_and_read(self):
        for text in WORKS:
            works = read(text)
            self.assertEqual(read(shown(works)), works)
            self.assertIs(is_tree(tree_of(works)), True)

    def test_least_sets_cross_one_another(self):
        for text in WORKS:
            works = read(text)
            tree = tree_of(works)
            self.assertEqual(cross(cuts(tree), tree[0]), keeps(tree))
            self.assertEqual(cross(keeps(tree), tree[0]), cuts(tree))
            for bits in all_sets(tree[0]):
                failing = any(bits & other == other for other in cuts(tree))
                self.assertIs(falls(tree, bits), failing)
                self.assertEqual(stops(works, names_in(works, bits)), failing)
                self.assertEqual(all(bits & other for other in keeps(tree)), failing)

    def test_the_odds_are_the_same_each_way(self):
        for text in WORKS:
            works = read(text)
            tree, odds = tree_of(works), odds_of(works)
            wanted = top_odds(works, odds)
            with self.subTest(text=text):
                for made in (odds_by_states, odds_by_parting, odds_by_sets, odds_by_alone):
                    self.assertEqual(made(tree, odds), wanted)
                for i in range(tree[0]):
                    low, rise = line_of(tree, odds, i)
                    self.assertEqual(plus(low, times(rise, odds[i])), wanted)
                    self.assertEqual(rise, weight_of(tree, odds, i))
                    bound = bound_for(tree, odds, i, wanted)
                    self.assertIs(less(bound, odds[i]), False)
                weights = [Fraction(*weight_of(tree, odds, i)) for i in order_of(tree, odds)]
                self.assertEqual(weights, sorted(weights, reverse=True))
                self.assertEqual(Desk(text).told("odds"), share_text(wanted))

    def test_the_cheapest_choices_are_so(self):
        for text in WORKS:
            works = read(text)
            for limit in ((0, 1), (1, 2), (1, 10), (1, 100)):
                wanted = least_price(works, limit)
                with self.subTest(text=text, limit=limit):
                    if wanted is None:
                        self.assertEqual(refusal(cheapest, works, limit), ("NoPlan",))
                        self.assertEqual(Desk(text).told(f"cheapest {share_text(limit)}"), "none")
                        continue
                    price, choices, what = cheapest(works, limit)
                    self.assertEqual(price, wanted)
                    self.assertIs(shows_cheapest(works, limit, price, what), True)
                    self.assertIs(shows_cheapest(works, limit, price + 1, what), False)
                    cost, odds = chosen(works, choices)
                    self.assertEqual(cost, price)
                    self.assertEqual(cost, sum(choices_of(works, i)[c][0] for i, c in enumerate(choices)))
                    self.assertIs(less(limit, odds_by_alone(tree_of(works), odds)), False)
                    lines = [f"cheapest {share_text(limit)}", "odds"]
                    self.assertEqual(answered(text, lines), [
                        f"{price}: {' '.join(str(c) for c in choices)}", share_text(top_odds(works, odds)),
                    ])

    def test_the_least_cuts_as_questions(self):
        for text in WORKS:
            works = read(text)
            tree = tree_of(works)
            questions = cuts(tree)[:8]
            names = [" ".join(part[0] for i, part in enumerate(works[0]) if bits & 2 ** i) for bits in questions]
            line = "tests " + " / ".join(names)
            with self.subTest(text=text):
                if refusal(least_asked, tree[0], questions):
                    self.assertEqual(Desk(text).told(line), "none")
                    continue
                count, asked, what = least_asked(tree[0], questions)
                self.assertEqual(Desk(text).told(line), str(count))
                found = [asked_by(tree[0], questions, asked, i) for i in range(tree[0])]
                self.assertEqual([part for part, _ in found], list(range(tree[0])))
                self.assertEqual(max(many for _, many in found), count)
                if count:
                    self.assertIs(shows_asked(tree[0], questions, count - 1, what), True)


class ADeskByLines(unittest.TestCase):
    def test_many_lines(self):
        chance = Random(5)
        for text in WORKS[:30]:
            works = read(text)
            tree = tree_of(works)
            names = [part[0] for part in works[0]]
            desk = Desk(text)
            odds, past, lines, found = odds_of(works), [], [], []
            for _ in range(25):
                line = self.some_line(chance, names)
                words = line.split(" ")
                lines.append(line)
                found.append(desk.told(line))
                changed = self.changed(works, names, odds, words)
                if words[0] == "undo":
                    self.assertEqual(found[-1], "done" if past else "nothing")
                    odds = past.pop() if past else odds
                elif changed is not None:
                    past.append(odds)
                    odds = changed
                with self.subTest(text=text, lines=lines):
                    self.assertEqual(desk.told("state"), ", ".join(
                        f"{name} {share_text(one)}" for name, one in zip(names, odds)
                    ))
                    self.assertEqual(desk.told("odds"), share_text(top_odds(works, odds)))
                    for i, name in enumerate(names[:2]):
                        self.assertEqual(desk.told(f"line {name}"), " ".join(map(share_text, line_of(tree, odds, i))))
            self.assertEqual(answered(text, lines), found)

    def some_line(self, chance, names):
        name = chance.choice(names + ["zz"])
        odds = chance.choice(("0/1", "1/1", "1/2", "2/6", "5/4", "1/0", "9/10", "1/100"))
        return chance.choice((f"put {name} {odds}", f"put {name} {odds}", "undo", "plain", f"cheapest {odds}", "odds ",
                              f"bound {name} {odds}", f"fall {name} {name}", "weights", "plain 1"))

    def changed(self, works, names, odds, words):
        """Tell the odds that a line gives, None where it changes nothing."""
        told = {"0/1": (0, 1), "1/1": (1, 1), "1/2": (1, 2), "2/6": (1, 3), "9/10": (9, 10), "1/100": (1, 100)}
        if words == ["plain"]:
            return odds_of(works)
        if words[0] == "put" and words[1] in names and words[2] in told:
            i = names.index(words[1])
            return odds[:i] + (told[words[2]],) + odds[i + 1:]
        if words[0] == "cheapest" and words[1] in told and not refusal(cheapest, works, told[words[1]]):
            return chosen(works, cheapest(works, told[words[1]])[1])[1]
        return None


class WhatIsToldIsTheAskersOwn(unittest.TestCase):
    def assert_frozen(self, thing):
        """Nothing that could be changed stands within it."""
        if isinstance(thing, tuple):
            for inner in thing:
                self.assert_frozen(inner)
        else:
            self.assertIn(type(thing), (int, str, type(None)))

    def test_nothing_of_it_can_be_changed(self):
        for text in WORKS[:20]:
            works = read(text)
            tree, odds = tree_of(works), odds_of(works)
            self.assert_frozen(works)
            for made in (odds_by_states, odds_by_parting, odds_by_sets, odds_by_alone, order_of):
                self.assert_frozen(made(tree, odds))
            self.assert_frozen(line_of(tree, odds, 0))
            self.assert_frozen(choices_of(works, 0))
            self.assert_frozen(chosen(works, (0,) * tree[0]))
            if not refusal(cheapest, works, (1, 2)):
                self.assert_frozen(cheapest(works, (1, 2)))
        self.assert_frozen(least_asked(6, (1, 2, 4, 8, 16)))
        self.assert_frozen(asked_by(2, (1,), ("ask", 0, ("is", 0), ("is", 1)), 0))


if __name__ == "__main__":
    unittest.main()
