"""Promises 10, 11 and 12: rises and first prices; and promises 2 and 3 as far as they speak of them."""

import random
import unittest
from fractions import Fraction

import helper
from helper import (meeting, money, pair, pairs, purses_of, raised, scaled, subsets, takers_of, value, wished_goods,
                    with_part)
from wishmart.errors import Dear, NoPrices, Unwished
from wishmart.rises import first_prices, rise, rises
from wishmart.sets import dear_goods, paid_goods

# Two buyers with the purses 3 and 5, each wishing one good of its own alone; good 2 is free.
APART = ((1, 2, 9), ((3, 1), (5, 1)), ((1, 0, 0), (0, 1, 0)))


def paying(market, prices, paid, rising):
    """For each set of goods that rise the factor at which its takers that take no paid good pay it up."""
    bound = takers_of(market, prices, paid)
    for some in subsets(rising):
        if some:
            buyers = [buyer for buyer in takers_of(market, prices, some) if buyer not in bound]
            yield purses_of(market, buyers) / money(market, prices, some)


def rise_by_words(market, prices):
    above = helper.goods_too_dear_by(market, prices)
    paid = max([some for some in above if above[some] == 0], key=len)
    rising = [good for good in wished_goods(market) if good not in paid]
    if not rising:
        return None
    factors = [*paying(market, prices, paid, rising), *meeting(market, prices, paid, rising)]
    factor = min(factor for factor in factors if factor > 1)
    return (paid, pair(factor), raised(prices, rising, factor))


def payable_cases(seed, many):
    """Many markets, also with free goods and buyers that wish nothing, at prices that can be paid."""
    chance = random.Random(seed)
    for market in helper.some_markets(seed, many, 4, 4) + helper.some_markets(seed, many // 10, least=5):
        for prices in [helper.payable_prices(market, chance), first_prices(market)]:
            yield market, prices
            for step in rises(market, prices):
                yield market, step[2]
    for market in helper.with_wishless(seed, many // 4):
        yield market, helper.payable_prices(market, chance)


class RiseTest(unittest.TestCase):
    def assert_form(self, told, market):
        self.assertIs(type(told), tuple)
        self.assertEqual(len(told), 3)
        self.assertTrue(helper.is_rising(told[0]))
        self.assertTrue(helper.is_lowest(told[1]))
        self.assertIs(type(told[2]), tuple)
        self.assertEqual(len(told[2]), len(market[0]))
        self.assertTrue(all(helper.is_lowest(price) for price in told[2]))

    def test_against_all_sets_and_all_pairs(self):
        seen = {"none": 0, "paid": 0, "unpaid": 0}
        for market, prices in payable_cases(1, 80):
            told = rise(market, prices)
            self.assertEqual(told, rise_by_words(market, prices), (market, prices))
            if told is None:
                self.assertEqual(paid_goods(market, prices), tuple(wished_goods(market)))
            else:
                self.assert_form(told, market)
                self.assertEqual(told[0], paid_goods(market, prices))
                self.assertGreater(value(told[1]), 1)
            seen["none" if told is None else "paid" if told[0] else "unpaid"] += 1
        self.assertGreater(min(seen.values()), 20, seen)

    def test_prices_that_can_be_paid_come_to_higher_ones_that_can_be_paid(self):
        for market, prices in payable_cases(2, 60):
            told = rise(market, prices)
            if told is not None:
                self.assertEqual(dear_goods(market, told[2]), ())
                for good, (ahead, behind) in enumerate(zip(prices, told[2])):
                    if good in told[0] or good not in wished_goods(market):
                        self.assertEqual(behind, ahead)
                    else:
                        self.assertEqual(value(behind), value(ahead) * value(told[1]))

    def test_a_set_is_paid_up(self):
        self.assertEqual(rise(APART, ((1, 1), (1, 1), (0, 1))), ((), (5, 2), ((5, 2), (5, 2), (0, 1))))
        self.assertEqual(rise(APART, ((5, 2), (5, 2), (0, 1))), ((1,), (6, 5), ((3, 1), (5, 2), (0, 1))))
        self.assertEqual(rise(APART, ((3, 1), (5, 4), (0, 1))), ((0,), (2, 1), ((3, 1), (5, 2), (0, 1))))

    def test_goods_are_paid_up_together(self):
        market = ((1, 2), ((3, 1), (3, 1)), ((1, 1), (1, 1)))
        self.assertEqual(rise(market, ((1, 1), (1, 1))), ((), (2, 1), ((2, 1), (2, 1))))

    def test_a_paid_good_is_best_beside_one_that_rises(self):
        # Buyer 0 pays good 0; buyer 1 takes good 1, and is for good 0, too, when good 1 has come to thrice its price.
        market = ((1, 1), ((1, 1), (10, 1)), ((1, 0), (1, 3)))
        self.assertEqual(rise(market, ((1, 1), (1, 1))), ((0,), (3, 1), ((1, 1), (3, 1))))
        self.assertEqual(rise(market, ((1, 1), (3, 1))), ((), (11, 4), ((11, 4), (33, 4))))

    def test_both_at_once(self):
        market = ((1, 1), ((1, 1), (3, 1)), ((1, 0), (1, 3)))
        self.assertEqual(rise(market, ((1, 1), (1, 1))), ((0,), (3, 1), ((1, 1), (3, 1))))
        self.assertIs(rise(market, ((1, 1), (3, 1))), None)

    def test_a_taker_of_a_paid_good_does_not_pay_for_others(self):
        # Buyer 0 takes both goods, and its purse goes to good 0 whole; good 1 rises to the purse of buyer 1.
        market = ((1, 1), ((1, 1), (5, 1)), ((1, 1), (0, 1)))
        self.assertEqual(rise(market, ((1, 1), (1, 1))), ((0,), (5, 1), ((1, 1), (5, 1))))

    def test_none(self):
        for market, prices in [(APART, ((3, 1), (5, 2), (0, 1))), (((4,), ((3, 1), (5, 1)), ((1,), (7,))), ((2, 1),)),
                               (((1, 1), ((3, 1),), ((0, 0),)), ((0, 1), (0, 1)))]:
            self.assertIs(rise(market, prices), None)

    def test_a_buyer_that_wishes_nothing_pays_for_nothing(self):
        market = ((1, 1), ((1000, 1), (4, 1)), ((0, 0), (1, 1)))
        self.assertEqual(rise(market, ((1, 1), (1, 1))), ((), (2, 1), ((2, 1), (2, 1))))
        self.assertIs(rise(market, ((2, 1), (2, 1))), None)

    def test_long_prices(self):
        large = helper.LARGEST
        market = ((1, 60), ((1, 1), (1000000, 999999)), ((100, 99), (1, 97)))
        prices = ((1, large), pair(Fraction(99, 100 * large)))
        self.assertEqual(rise(market, prices), rise_by_words(market, prices))


class FirstPricesTest(unittest.TestCase):
    def by_words(self, market):
        amounts, purses, wishes = market
        wanted = wished_goods(market)
        even = min(value(purse) for purse in purses) / sum(amounts[good] for good in wanted)
        told = pairs(even if good in wanted else 0 for good in range(len(amounts)))
        made = list(told)
        for good in wanted:
            if not takers_of(market, told, (good,)):
                # Only at one of these prices does it come to be best for a buyer, the others having theirs.
                prices = [even * row[good] / max(row) for row in wishes if row[good]]
                made[good] = pair(max(price for price in prices if takers_of(
                    market, with_part(told, (good,), pair(price)), (good,))))
        return tuple(made)

    def test_told_as_written_out(self):
        for market, told in [
            (((4,), ((3, 1), (5, 1)), ((1,), (7,))), ((3, 4),)),
            (APART, ((1, 1), (1, 1), (0, 1))),
            # Good 1 is best for nobody at the price 1; buyer 1 is the first for whom it comes to be, at 2/3.
            (((1, 2), ((3, 1), (9, 1)), ((2, 1), (3, 2))), ((1, 1), (2, 3))),
            (((1, 1), ((1, 1),), ((100, 1),)), ((1, 2), (1, 200))),
            # Goods 1 and 2 have both theirs made lower, each by another buyer; good 3 is free.
            (((1, 1, 1, 60), ((6, 1), (3, 1)), ((4, 3, 1, 0), (5, 3, 2, 0))), ((1, 1), (3, 4), (2, 5), (0, 1))),
            (((60,) * 2, ((1, 1000000), (1000000, 1)), ((1, 0), (0, 1))), ((1, 120000000), (1, 120000000))),
        ]:
            with self.subTest(market=market):
                self.assertEqual(first_prices(market), told)

    def test_against_the_words(self):
        lower = 0
        for market in helper.some_markets(3, 300):
            told = first_prices(market)
            self.assertIs(type(told), tuple)
            self.assertTrue(all(helper.is_lowest(price) for price in told))
            self.assertEqual(told, self.by_words(market))
            self.assertEqual(first_prices(market), told)
            lower += len({told[good] for good in wished_goods(market)}) > 1
        self.assertGreater(lower, 100)

    def test_a_lowered_price_is_the_greatest_at_which_the_good_is_best_for_one(self):
        for market in helper.some_markets(4, 100):
            told = first_prices(market)
            even = max(value(price) for price in told)
            for good in wished_goods(market):
                self.assertNotEqual(takers_of(market, told, (good,)), ())
                if value(told[good]) != even:
                    more = with_part(told, (good,), pair(value(told[good]) * Fraction(10 ** 9 + 1, 10 ** 9)))
                    self.assertEqual(takers_of(market, more, (good,)), ())

    def test_they_can_be_paid(self):
        for market in helper.some_markets(5, 100):
            self.assertEqual(dear_goods(market, first_prices(market)), ())

    def test_unwished(self):
        for market in helper.with_wishless(6, 50) + [((1,), ((1, 1),), ((0,),))]:
            with self.assertRaises(Unwished) as caught:
                first_prices(market)
            self.assertIs(type(caught.exception), Unwished)


class RisesTest(unittest.TestCase):
    def test_told_as_written_out(self):
        self.assertEqual(rises(APART, ((1, 1), (1, 1), (0, 1))), [
            ((), (5, 2), ((5, 2), (5, 2), (0, 1))), ((1,), (6, 5), ((3, 1), (5, 2), (0, 1)))])
        self.assertEqual(rises(APART, ((3, 1), (5, 2), (0, 1))), [])
        self.assertEqual(rises(((1, 1), ((3, 1),), ((0, 0),)), ((0, 1), (0, 1))), [])

    def test_one_behind_the_other_to_the_last(self):
        chance = random.Random(7)
        long = 0
        for market in helper.some_markets(7, 120) + helper.with_wishless(7, 40):
            starts = [helper.payable_prices(market, chance)]
            if helper.all_wish(market):
                starts.append(first_prices(market))
            for prices in starts:
                told = rises(market, prices)
                self.assertIs(type(told), list)
                for step in told:
                    self.assertEqual(step, rise(market, prices))
                    prices = step[2]
                self.assertIs(rise(market, prices), None)
                self.assertEqual(paid_goods(market, prices), tuple(wished_goods(market)))
                long = max(long, len(told))
        self.assertGreater(long, 5)

    def test_a_new_list_each_time(self):
        for market, prices in list(payable_cases(8, 10)):
            told = rises(market, prices)
            kept = list(told)
            again = rises(market, prices)
            self.assertIsNot(told, again)
            told.append("more")
            told[:1] = []
            self.assertEqual(again, kept)
            self.assertEqual(rises(market, prices), kept)

    def test_what_was_told_is_handed_in_again(self):
        for market in helper.some_markets(9, 30, least=4):
            told = rises(market, first_prices(market))
            for at, step in enumerate(told):
                self.assertEqual(rises(market, step[2]), told[at + 1:])


class RefusedTest(unittest.TestCase):
    CALLS = [rise, rises]

    def test_no_prices(self):
        # The second prices are too dear: NoPrices goes ahead of Dear.
        for prices in [((1, 1), (1, 1), (0, 1)), ((9, 1), (9, 1), (0, 1))]:
            for thing in helper.wrong_prices(APART, prices):
                before = repr(thing)
                for call in self.CALLS:
                    with self.assertRaises(NoPrices):
                        call(APART, thing)
                self.assertEqual(repr(thing), before)

    def test_dear(self):
        chance = random.Random(10)
        cases = [(APART, ((4, 1), (1, 1), (0, 1))), (APART, ((1, 1), (5000001, 2000000), (0, 1))),
                 (((1, 1), ((100, 1),), ((1, 1),)), ((1, 1), (2, 1)))]
        for market in helper.some_markets(10, 60) + helper.with_wishless(10, 20):
            if wished_goods(market):
                prices = helper.just_paid(market, helper.taken_prices(market, chance))
                cases.append((market, scaled(prices, Fraction(10 ** 12 + 1, 10 ** 12))))
        for market, prices in cases:
            for call in self.CALLS:
                with self.assertRaises(Dear) as caught:
                    call(market, prices)
                self.assertIs(type(caught.exception), Dear)

    def test_nothing_handed_in_is_changed(self):
        for market, prices in list(payable_cases(11, 10)):
            before = repr((market, prices))
            for call in self.CALLS:
                self.assertEqual(call(market, prices), call(market, prices))
            self.assertEqual(repr((market, prices)), before)


if __name__ == "__main__":
    unittest.main()
