import unittest
from fractions import Fraction

from faultwood.reading import read
from faultwood.spares import cheapest, chosen, shows_cheapest
from models import all_choices, top_odds, ways
from offers import BOUGHT, FREE, MANY_WAYS, NOTHING_FOR_SALE, OFFERS, RING, SAME_PRICES
from things import Alike, no_numbers, no_odds, no_texts, places_in, refusal, with_place

WORKS = read("part a 1/2\npart b 1/2\nbetter a 1/4 10\nspare b 3 2\ngate g all a b\ntop g")
DEAR = ("dear",)
HIGH = ("high",)

# For the limit 1/9 one spare isn't enough, two are, at the price 6.
BRANCHES_OF_B = ((0, HIGH), (1, HIGH), (2, DEAR))
SHOWN = ("cases", 0, ((0, ("cases", 1, BRANCHES_OF_B)), (1, DEAR)))


def things_of_any_kind():
    """Tell things that show nothing, whatever they are asked of."""
    return no_texts() + [
        "", "dear", "high", "cases", DEAR * 2, HIGH * 2, ["dear"], ["high"], (DEAR,), (HIGH,), ("dear", None),
        ("high", 0), ("DEAR",), ("Dear",), ("dear ",), ("many",), ("cases",), ("cases", 0), ("cases", 0, ()),
        (b"dear",), (b"high",), {"dear": 1}, ("cases", 0, (), ()), ((), (), ()), ((),), (((((),),),),), (None,),
        (Alike(),), Alike(), (Alike(), Alike(), Alike()), ("cases", Alike(), Alike()), ("cases", 0, Alike()),
        ["cases", 0, SHOWN[2]], ("cases", 0, list(SHOWN[2])), ("cases", 0, dict(SHOWN[2])),
    ]


def shows(works, limit, price, given, shown):
    """Tell whether a thing shows it of the ways that are given to some parts, as point 72 tells it."""
    if type(shown) is not tuple or not shown or type(shown[0]) is not str:
        return False
    if shown == DEAR:
        return sum(ways(works, i)[c][0] for i, c in given.items()) >= price
    if shown == HIGH:
        odds = []
        for i in range(len(works[0])):
            told = [way[1] for way in ways(works, i)]
            odds.append(told[given[i]] if i in given else min(told, key=lambda one: Fraction(*one)))
        return Fraction(*top_odds(works, tuple(odds))) > Fraction(*limit)
    if len(shown) != 3 or shown[0] != "cases" or type(shown[1]) is not int or type(shown[2]) is not tuple:
        return False
    if shown[1] not in range(len(works[0])) or shown[1] in given:
        return False
    if not all(type(branch) is tuple and len(branch) == 2 and type(branch[0]) is int for branch in shown[2]):
        return False
    if [branch[0] for branch in shown[2]] != list(range(len(ways(works, shown[1])))):
        return False
    return all(shows(works, limit, price, {**given, shown[1]: c}, told) for c, told in shown[2])


class WhatIsTold(unittest.TestCase):
    def test_what_cheapest_tells(self):
        for text in (*OFFERS, MANY_WAYS):
            works = read(text)
            for limit in ((1, 2), (1, 5), (1, 10), (1, 30), (1, 100)):
                if refusal(cheapest, works, limit) is None:
                    price, _, shown = cheapest(works, limit)
                    with self.subTest(text=text, limit=limit):
                        self.assertIs(shows_cheapest(works, limit, price, shown), True)
                        self.assertIs(shows_cheapest(works, limit, price + 1, shown), False)

    def test_a_lower_price_or_limit_is_shown_likewise(self):
        for text, limit in ((BOUGHT, (1, 6)), (RING, (1, 10))):
            works = read(text)
            price, _, shown = cheapest(works, limit)
            self.assertGreater(price, 1)
            for lower in range(1, price):
                self.assertIs(shows_cheapest(works, limit, lower, shown), True)
            for limit in ((1, 11), (1, 1000), (0, 1)):
                self.assertIs(shows_cheapest(works, limit, price, shown), True)

    def test_no_price_that_choices_undercut_is_shown(self):
        for text in (BOUGHT, SAME_PRICES, RING):
            works = read(text)
            told = [cheapest(works, limit)[2] for limit in ((1, 10), (1, 7), (1, 6), (1, 8), (1, 20), (1, 30))
                    if refusal(cheapest, works, limit) is None]
            for choices, price, odds in all_choices(works)[::5]:
                for shown in [*told, DEAR, HIGH, None]:
                    self.assertIs(shows_cheapest(works, top_odds(works, odds), price + 1, shown), False)


class PriceOfNought(unittest.TestCase):
    def test_none_shows_it_and_nothing_else(self):
        for works in (WORKS, read(NOTHING_FOR_SALE), read(FREE)):
            for limit in ((0, 1), (1, 9), (1, 1)):
                self.assertIs(shows_cheapest(works, limit, 0, None), True)
                for shown in [DEAR, HIGH, SHOWN, *things_of_any_kind()]:
                    if shown is not None:
                        with self.subTest(limit=limit, shown=repr(shown)):
                            self.assertIs(shows_cheapest(works, limit, 0, shown), False)

    def test_none_shows_no_other_price(self):
        for price in (1, 6, 10 ** 30):
            for limit in ((0, 1), (1, 9), (1, 1)):
                self.assertIs(shows_cheapest(WORKS, limit, price, None), False)


class Dear(unittest.TestCase):
    def test_at_the_price_and_below(self):
        for price, wanted in ((4, True), (5, True), (6, True), (7, False), (8, False), (9, False), (10, False)):
            with self.subTest(price=price):
                self.assertIs(shows_cheapest(WORKS, (1, 9), price, SHOWN), wanted)
        works = read("part a 1/2\nbetter a 1/4 10\ngate g any a\ntop g")
        shown = ("cases", 0, ((0, HIGH), (1, DEAR)))
        for price, wanted in ((9, True), (10, True), (11, False)):
            self.assertIs(shows_cheapest(works, (1, 3), price, shown), wanted)

    def test_of_no_ways(self):
        for price in (1, 2, 100):
            self.assertIs(shows_cheapest(WORKS, (1, 9), price, DEAR), False)

    def test_ways_of_several_parts_together(self):
        works = read("part a 1/2\npart b 1/2\nbetter a 1/4 10\nbetter b 1/4 7\ngate g any a b\ntop g")
        shown = ("cases", 1, ((0, HIGH), (1, ("cases", 0, ((0, HIGH), (1, DEAR))))))
        for price, wanted in ((16, True), (17, True), (18, False)):
            self.assertIs(shows_cheapest(works, (1, 2), price, shown), wanted)


class High(unittest.TestCase):
    def test_above_the_limit_and_at_it(self):
        for limit, wanted in (((0, 1), True), ((1, 33), True), ((1, 32), False), ((1, 31), False), ((1, 1), False)):
            with self.subTest(limit=limit):
                self.assertIs(shows_cheapest(WORKS, limit, 1, HIGH), wanted)
                self.assertIs(shows_cheapest(WORKS, limit, 10 ** 9, HIGH), wanted)

    def test_with_the_least_odds_of_the_others(self):
        shown = ("cases", 0, ((0, HIGH), (1, DEAR)))
        for limit, wanted in (((1, 17), True), ((1, 16), False), ((1, 15), False)):
            with self.subTest(limit=limit):
                self.assertIs(shows_cheapest(WORKS, limit, 5, shown), wanted)

    def test_the_least_odds_needn_t_be_those_of_the_last_way(self):
        works = read("part a 1/2\nbetter a 1/5 10\nbetter a 3/4 20\nspare a 5 1\ngate g any a\ntop g")
        for limit, wanted in (((1, 6), True), ((1, 5), False), ((1, 4), False)):
            self.assertIs(shows_cheapest(works, limit, 1, HIGH), wanted)

    def test_all_parts_with_ways(self):
        for limit, wanted in (((1, 9), True), ((1, 8), False)):
            self.assertIs(shows_cheapest(WORKS, limit, 6, SHOWN), wanted)


class Cases(unittest.TestCase):
    def assert_none(self, shown):
        with self.subTest(shown=repr(shown)):
            self.assertIs(shows_cheapest(WORKS, (1, 9), 6, shown), False)

    def test_any_order_of_the_parts(self):
        self.assertIs(shows_cheapest(WORKS, (1, 9), 6, SHOWN), True)
        of_a = ("cases", 0, ((0, HIGH), (1, DEAR)))
        self.assertIs(shows_cheapest(WORKS, (1, 9), 6, ("cases", 1, ((0, of_a), (1, of_a), (2, DEAR)))), True)
        self.assertIs(shows_cheapest(WORKS, (1, 9), 6, ("cases", 1, ((0, of_a), (1, of_a), (2, of_a)))), False)

    def test_more_cases_than_needed(self):
        longer = ("cases", 0, (SHOWN[2][0], (1, ("cases", 1, ((0, DEAR), (1, DEAR), (2, DEAR))))))
        self.assertIs(shows_cheapest(WORKS, (1, 9), 6, longer), True)

    def test_a_part_that_has_a_way_already(self):
        again = ("cases", 0, ((0, HIGH), (1, DEAR)))
        self.assert_none(("cases", 0, ((0, again), (1, DEAR))))
        self.assert_none(("cases", 0, ((0, ("cases", 1, BRANCHES_OF_B)), (1, ("cases", 0, ((0, DEAR), (1, DEAR)))))))

    def test_what_is_no_part(self):
        for i in [*no_numbers(), 2, 3, 10 ** 30]:
            self.assert_none(("cases", i, SHOWN[2]))
        for i in (False, "0", None, -2, Alike()):
            self.assert_none(("cases", i, SHOWN[2]))

    def test_branches_lacking_doubled_or_in_another_order(self):
        zero, one, two = BRANCHES_OF_B
        for branches in (
            (), (zero,), (zero, one), (one, two), (zero, two), (zero, one, one), (zero, zero, two),
            (zero, one, two, two), (zero, zero, one, two), (zero, one, two, (3, DEAR)), (two, one, zero),
            (one, zero, two), (zero, two, one), (zero, one, (3, DEAR)), ((-1, HIGH), zero, one, two),
        ):
            self.assert_none(("cases", 0, ((0, ("cases", 1, branches)), (1, DEAR))))

    def test_what_shows_it_of_another_branch(self):
        for branches in (
            ((0, DEAR), (1, HIGH), (2, DEAR)), ((0, HIGH), (1, DEAR), (2, DEAR)), ((0, HIGH), (1, HIGH), (2, HIGH)),
            ((0, DEAR), (1, DEAR), (2, HIGH)),
        ):
            self.assert_none(("cases", 0, ((0, ("cases", 1, branches)), (1, DEAR))))
        self.assert_none(("cases", 0, ((0, DEAR), (1, ("cases", 1, BRANCHES_OF_B)))))
        self.assert_none(("cases", 1, SHOWN[2]))
        self.assert_none(("cases", 0, BRANCHES_OF_B))

    def test_truths_for_numbers(self):
        zero, one, two = BRANCHES_OF_B
        for branches in (((False, HIGH), one, two), (zero, (True, HIGH), two)):
            self.assert_none(("cases", 0, ((0, ("cases", 1, branches)), (1, DEAR))))
        self.assert_none(("cases", False, SHOWN[2]))
        self.assert_none(("cases", 0, ((0, ("cases", True, BRANCHES_OF_B)), (1, DEAR))))

    def test_lists_for_tuples_words_and_lengths(self):
        zero, one, two = BRANCHES_OF_B
        for shown in (
            ["cases", 1, BRANCHES_OF_B], ("cases", 1, [zero, one, two]), ("cases", 1, ([0, HIGH], one, two)),
            ("cases", 1, ((0, ["high"]), one, two)), ("case", 1, BRANCHES_OF_B), ("CASES", 1, BRANCHES_OF_B),
            ("cases", 1), ("cases", 1, BRANCHES_OF_B, ()), ("cases", BRANCHES_OF_B, 1), ("cases", 1, *BRANCHES_OF_B),
            ("cases", 1, ((0, HIGH, HIGH), one, two)), ("cases", 1, ((0,), one, two)), ("cases", 1, (HIGH, one, two)),
            ("cases", 1, ((HIGH, 0), one, two)), ("high", 1, BRANCHES_OF_B), ("dear", 1, BRANCHES_OF_B),
        ):
            self.assert_none(("cases", 0, ((0, shown), (1, DEAR))))


class Anything(unittest.TestCase):
    def test_anything_else(self):
        for shown in things_of_any_kind():
            with self.subTest(shown=repr(shown)):
                self.assertIs(shows_cheapest(WORKS, (1, 9), 6, shown), False)
                self.assertIs(shows_cheapest(WORKS, (0, 1), 1, shown), False)

    def test_anything_else_at_any_place(self):
        for place in places_in(SHOWN):
            for thing in things_of_any_kind() + [0, 1, 2, 3, DEAR, HIGH, SHOWN, BRANCHES_OF_B]:
                shown = with_place(SHOWN, place, thing)
                with self.subTest(shown=repr(shown)):
                    wanted = shows(WORKS, (1, 9), 6, {}, shown)
                    self.assertIs(shows_cheapest(WORKS, (1, 9), 6, shown), wanted)

    def test_changed_ones_of_other_works(self):
        for text, limit in ((BOUGHT, (1, 6)), (RING, (1, 10))):
            works = read(text)
            price, _, shown = cheapest(works, limit)
            for place in places_in(shown):
                for thing in (0, 1, DEAR, HIGH, ("cases", 1, ((0, HIGH), (1, DEAR))), True, None):
                    told = with_place(shown, place, thing)
                    wanted = shows(works, limit, price, {}, told)
                    with self.subTest(told=repr(told)):
                        self.assertIs(shows_cheapest(works, limit, price, told), wanted)

    def test_deep_things(self):
        deep = ()
        for _ in range(45):
            deep = (deep,)
        cases = DEAR
        for _ in range(16):
            cases = ("cases", 0, ((0, cases), (1, DEAR)))
        for shown in (deep, cases):
            self.assertIs(shows_cheapest(WORKS, (1, 9), 6, shown), False)

    def test_what_is_handed_in_stays_as_it_was(self):
        shown = ["cases", 0, [[0, ["high"]], {1: 2}]]
        self.assertIs(shows_cheapest(WORKS, (1, 9), 6, shown), False)
        self.assertEqual(shown, ["cases", 0, [[0, ["high"]], {1: 2}]])
        self.assertEqual(chosen(WORKS, (0, 2))[0], 6)


class Refusals(unittest.TestCase):
    def test_what_is_no_limit(self):
        for limit in no_odds():
            for price, shown in ((6, SHOWN), (0, None), (6, None), (-1, SHOWN), (None, 3), (True, DEAR)):
                with self.subTest(limit=repr(limit), price=price):
                    self.assertEqual(refusal(shows_cheapest, WORKS, limit, price, shown), ("BadOdds",))

    def test_what_is_no_price(self):
        for price in no_numbers():
            for shown in (SHOWN, None, DEAR, 3, [1]):
                with self.subTest(price=repr(price)):
                    self.assertEqual(refusal(shows_cheapest, WORKS, (1, 9), price, shown), ("BadOdds",))
                    self.assertEqual(refusal(shows_cheapest, WORKS, (0, 1), price, shown), ("BadOdds",))
        for price in (0, 1, 10 ** 300):
            self.assertIsNone(refusal(shows_cheapest, WORKS, (1, 9), price, SHOWN))


if __name__ == "__main__":
    unittest.main()
