import unittest
from fractions import Fraction

from faultwood import spares
from faultwood.odds import odds_by_states
from faultwood.reading import read
from faultwood.spares import cheapest, choices_of, chosen, shows_cheapest
from faultwood.trees import odds_of, tree_of
from models import all_choices, least_price, top_odds, ways
from offers import (
    BOUGHT, FREE, MANY_PARTS, MANY_WAYS, MOST_WAYS, NOTHING_FOR_SALE, OFFERS, RING, TOO_MANY_WAYS, WORSE,
)
from things import Alike, no_numbers, no_odds, no_texts, own_names, refusal

NAMES = {"choices_of", "chosen", "cheapest", "shows_cheapest"}


class File(unittest.TestCase):
    def test_it_defines_each_function(self):
        self.assertEqual(own_names(spares) & NAMES, NAMES)


class ChoicesOf(unittest.TestCase):
    def test_as_it_is_then_betterings_then_spares(self):
        works = read(BOUGHT)
        self.assertEqual(choices_of(works, 0), (
            (0, (1, 2)), (30, (1, 10)), (7, (1, 3)), (5, (1, 4)), (10, (1, 8)),
        ))
        self.assertEqual(choices_of(works, 1), ((0, (1, 3)), (20, (1, 9)), (40, (1, 27)), (60, (1, 81))))
        self.assertEqual(choices_of(works, 2), ((0, (2, 5)), (4, (1, 5))))

    def test_a_part_without_any(self):
        self.assertEqual(choices_of(read(BOUGHT), 3), ((0, (1, 6)),))
        self.assertEqual(choices_of(read(NOTHING_FOR_SALE), 0), ((0, (1, 2)),))

    def test_odds_in_lowest_terms(self):
        works = read("part a 20/40\nbetter a 6/1000 1\nbetter a 0/7 2\nbetter a 9/9 3\nspare a 4 2\ngate g any a\ntop g")
        self.assertEqual(choices_of(works, 0), (
            (0, (1, 2)), (1, (3, 500)), (2, (0, 1)), (3, (1, 1)), (4, (1, 4)), (8, (1, 8)),
        ))

    def test_odds_of_nought_and_of_one_with_spares(self):
        works = read("part a 0/5\npart b 7/7\nspare a 4 3\nspare b 0 2\ngate g any a\ntop g")
        self.assertEqual(choices_of(works, 0), ((0, (0, 1)), (4, (0, 1)), (8, (0, 1)), (12, (0, 1))))
        self.assertEqual(choices_of(works, 1), ((0, (1, 1)), (0, (1, 1)), (0, (1, 1))))

    def test_bounds_of_prices_and_odds(self):
        works = read("part a 999/1000\nbetter a 1/1000 1000000\nspare a 1000000 3\ngate g any a\ntop g")
        told = choices_of(works, 0)
        self.assertEqual(told[1], (1000000, (1, 1000)))
        self.assertEqual(told[4], (3000000, (999 ** 4, 1000 ** 4)))

    def test_as_works_tell(self):
        for text in OFFERS:
            works = read(text)
            for i in range(len(works[0])):
                with self.subTest(text=text, i=i):
                    self.assertEqual(choices_of(works, i), ways(works, i))
                    self.assertEqual(choices_of(works, i), choices_of(works, i))
            self.assertEqual(works, read(text))

    def test_what_is_no_number_of_a_part(self):
        works = read(BOUGHT)
        for i in [*no_numbers(), 4, 5, 12, 10 ** 30]:
            with self.subTest(i=repr(i)):
                self.assertEqual(refusal(choices_of, works, i), ("BadOdds",))
        for i in (1, 2):
            self.assertEqual(refusal(choices_of, read(NOTHING_FOR_SALE), i), ("BadOdds",))


class Chosen(unittest.TestCase):
    def test_plain_choices(self):
        for text in OFFERS:
            works = read(text)
            plain = (0,) * len(works[0])
            self.assertEqual(chosen(works, plain), (0, odds_of(works)))

    def test_mixed_choices(self):
        works = read(BOUGHT)
        self.assertEqual(chosen(works, (1, 0, 0, 0)), (30, ((1, 10), (1, 3), (2, 5), (1, 6))))
        self.assertEqual(chosen(works, (4, 3, 1, 0)), (74, ((1, 8), (1, 81), (1, 5), (1, 6))))
        self.assertEqual(chosen(works, (2, 2, 0, 0)), (47, ((1, 3), (1, 27), (2, 5), (1, 6))))

    def test_as_works_tell(self):
        for text in (BOUGHT, FREE, WORSE, RING):
            works = read(text)
            for choices, price, odds in all_choices(works):
                self.assertEqual(chosen(works, choices), (price, odds))

    def test_what_are_no_choices(self):
        works = read(BOUGHT)
        good = (4, 3, 1, 0)
        wrong = [*no_texts(), "", "4310", list(good), dict(enumerate(good)), good[:3], good + (0,), (), (good,), Alike()]
        for place in range(4):
            for thing in [*no_numbers(), good[place] + 1, good[place] + 2, 10 ** 30]:
                wrong.append(good[:place] + (thing,) + good[place + 1:])
        for choices in wrong:
            with self.subTest(choices=repr(choices)):
                self.assertEqual(refusal(chosen, works, choices), ("BadOdds",))
        self.assertIsNone(refusal(chosen, works, good))

    def test_what_is_handed_in_stays_as_it_was(self):
        works = read(BOUGHT)
        told = [0, [1], {2: 2}, 0]
        self.assertEqual(refusal(chosen, works, told), ("BadOdds",))
        self.assertEqual(told, [0, [1], {2: 2}, 0])


class Cheapest(unittest.TestCase):
    def assert_cheapest(self, works, limit):
        """Hold what is told for a limit against going through all choices; tell the price."""
        wanted = least_price(works, limit)
        if wanted is None:
            self.assertEqual(refusal(cheapest, works, limit), ("NoPlan",))
            return None
        price, choices, shown = cheapest(works, limit)
        self.assertEqual(price, wanted)
        cost, odds = chosen(works, choices)
        self.assertEqual(cost, price)
        self.assertLessEqual(Fraction(*odds_by_states(tree_of(works), odds)), Fraction(*limit))
        self.assertIs(shows_cheapest(works, limit, price, shown), True)
        self.assertIs(shows_cheapest(works, limit, price + 1, shown), False)
        self.assertEqual(shown is None, price == 0)
        self.assertEqual(cheapest(works, limit), (price, choices, shown))
        self.assertIs(type(choices), tuple)
        return price

    def test_by_hand(self):
        works = read("part a 1/2\npart b 1/2\nbetter a 1/4 10\nspare b 3 2\ngate g all a b\ntop g")
        for limit, wanted in (
            ((1, 4), 0), ((1, 5), 3), ((1, 8), 3), ((1, 9), 6), ((1, 16), 6), ((1, 17), 16), ((1, 32), 16),
        ):
            with self.subTest(limit=limit):
                self.assertEqual(cheapest(works, limit)[0], wanted)
        self.assertEqual(cheapest(works, (1, 32))[:2], (16, (1, 2)))
        self.assertEqual(cheapest(works, (1, 9))[:2], (6, (0, 2)))
        self.assertEqual(refusal(cheapest, works, (1, 33)), ("NoPlan",))

    def test_limits_of_nought_and_of_one(self):
        for text in OFFERS:
            works = read(text)
            with self.subTest(text=text):
                self.assertEqual(cheapest(works, (1, 1)), (0, cheapest(works, (1, 1))[1], None))
                self.assert_cheapest(works, (0, 1))
        works = read("part a 1/2\npart b 1/2\nbetter a 0/1 8\nbetter b 0/1 9\ngate g all a b\ntop g")
        self.assertEqual(cheapest(works, (0, 1))[:2], (8, (1, 0)))
        works = read("part a 1/2\npart b 1/2\nbetter a 0/1 8\nbetter b 0/1 9\ngate g any a b\ntop g")
        self.assertEqual(cheapest(works, (0, 1))[:2], (17, (1, 1)))
        works = read("part a 1/2\nbetter a 0/1 8\ngate g any a\ntop g")
        self.assertEqual(cheapest(works, (0, 1))[:2], (8, (1,)))

    def test_all_offers_and_limits(self):
        for text in OFFERS:
            works = read(text)
            prices = set()
            for limit in ((1, 2), (1, 3), (1, 5), (1, 7), (1, 10), (1, 20), (1, 50), (1, 100), (1, 1000), (999, 1000)):
                with self.subTest(text=text, limit=limit):
                    prices.add(self.assert_cheapest(works, limit))
            self.assertEqual(works, read(text))

    def test_just_what_choices_come_to(self):
        for text in (BOUGHT, FREE, WORSE, RING):
            works = read(text)
            for choices, _, odds in all_choices(works)[::7]:
                found = Fraction(*top_odds(works, odds))
                little = Fraction(1, 10 ** 12)
                for limit in (found - little, found, found + little):
                    if 0 <= limit <= 1:
                        with self.subTest(text=text, choices=choices, limit=limit):
                            self.assert_cheapest(works, (limit.numerator, limit.denominator))

    def test_prices_of_nought(self):
        works = read(FREE)
        price, choices, shown = cheapest(works, (1, 3))
        self.assertEqual((price, shown), (0, None))
        self.assertEqual(choices[0], 1)
        self.assertEqual(chosen(works, choices)[0], 0)
        self.assertEqual(cheapest(works, (1, 4))[0], 6)

    def test_betterings_that_are_worse(self):
        works = read(WORSE)
        self.assertEqual(cheapest(works, (1, 6))[:2], (0, (0, 0)))
        self.assertEqual(refusal(cheapest, works, (1, 7)), None)
        self.assertEqual(cheapest(works, (1, 9))[:2], (5, (3, 0)))

    def test_none_does(self):
        self.assertEqual(refusal(cheapest, read(NOTHING_FOR_SALE), (1, 3)), ("NoPlan",))
        self.assertEqual(refusal(cheapest, read(NOTHING_FOR_SALE), (0, 1)), ("NoPlan",))
        self.assertIsNone(refusal(cheapest, read(NOTHING_FOR_SALE), (1, 2)))

    def test_seven_parts_with_many_choices(self):
        works = read(MANY_WAYS)
        many = 1
        for i in range(7):
            many *= len(choices_of(works, i))
        self.assertEqual(many, 2916)
        for limit in ((1, 5), (1, 10), (1, 20), (1, 30)):
            with self.subTest(limit=limit):
                self.assert_cheapest(works, limit)

    def test_the_most_choices(self):
        works = read(MOST_WAYS)
        many = 1
        for i in range(7):
            many *= len(choices_of(works, i))
        self.assertEqual(many, 3000)
        for limit in ((1, 3), (1, 20)):
            with self.subTest(limit=limit):
                self.assert_cheapest(works, limit)

    def test_more_choices_than_can_be_gone_through(self):
        works = read(TOO_MANY_WAYS)
        self.assertIn(refusal(cheapest, works, (1, 2)), (None, ("TooMany",)))
        self.assertEqual(refusal(cheapest, works, (0, 1)), ("NoPlan",))
        for limit in ((2, 1), None, [1, 2]):
            self.assertEqual(refusal(cheapest, works, limit), ("BadOdds",))

    def test_more_parts_than_anything_is_promised_of(self):
        self.assertIn(refusal(cheapest, read(MANY_PARTS), (1, 2)), (None, ("TooMany",), ("NoPlan",)))

    def test_what_is_no_limit(self):
        for text in (BOUGHT, NOTHING_FOR_SALE):
            works = read(text)
            for limit in no_odds():
                with self.subTest(limit=repr(limit)):
                    self.assertEqual(refusal(cheapest, works, limit), ("BadOdds",))
            self.assertEqual(works, read(text))


if __name__ == "__main__":
    unittest.main()
