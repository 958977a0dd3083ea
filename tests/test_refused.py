"""Promise 2 over the program: refusals, each of its own class alone and in their order; the same again the same."""

import copy
import itertools
import random
import unittest
from fractions import Fraction

import helper
from helper import scaled, wished_goods
from wishmart.clearing import clear, shows, worths
from wishmart.errors import Dear, MartError, NoBuyer, NoPrices, Unwished
from wishmart.fairs import Fair
from wishmart.pieces import whole
from wishmart.prices import best_goods, money_of, takers
from wishmart.rises import first_prices, rise, rises
from wishmart.sets import dear_goods, paid_goods, rich_buyers
from wishmart.stretches import stretch

# What is asked of a market and prices: what can't be paid is refused by the second ones only.
OF_ANY_PRICES = [dear_goods, rich_buyers, best_goods, lambda market, prices: money_of(market, prices, (0,)),
                 lambda market, prices: takers(market, prices, (0,)), lambda market, prices: shows(market, prices, ())]
OF_PAYABLE_PRICES = [paid_goods, rise, rises]
# What is asked of a market alone, and refused where a buyer wishes nothing.
OF_A_MARKET = [first_prices, clear, worths, whole, lambda market: stretch(market, 0), Fair]
TOLD_OF_A_MARKET = OF_A_MARKET[:-1]


class RefusedTest(unittest.TestCase):
    def assert_refused(self, error, call, *handed_in):
        before = repr(handed_in)
        with self.assertRaises(ValueError) as caught:
            call(*handed_in)
        self.assertIs(type(caught.exception), error, handed_in)
        self.assertEqual(type(caught.exception).__mro__[1:3], (MartError, ValueError))
        self.assertEqual(repr(handed_in), before)

    def dear_prices(self, market, chance):
        prices = helper.just_paid(market, helper.taken_prices(market, chance))
        return scaled(prices, chance.choice([2, Fraction(10 ** 12 + 1, 10 ** 12)]))

    def test_no_prices_alone(self):
        chance = random.Random(71)
        for market in helper.some_markets(71, 3, 3, 3) + helper.with_wishless(71, 3, 3):
            for thing in helper.wrong_prices(market, helper.payable_prices(market, chance)):
                for call in OF_ANY_PRICES + OF_PAYABLE_PRICES:
                    self.assert_refused(NoPrices, call, market, thing)

    def test_dear_alone(self):
        chance = random.Random(72)
        for market in helper.some_markets(72, 60) + helper.with_wishless(72, 20):
            if wished_goods(market):
                prices = self.dear_prices(market, chance)
                for call in OF_PAYABLE_PRICES:
                    self.assert_refused(Dear, call, market, prices)
                for call in OF_ANY_PRICES:
                    call(market, prices)

    def test_no_prices_ahead_of_dear(self):
        chance = random.Random(73)
        for market in helper.some_markets(73, 3, 3, 3) + helper.with_wishless(73, 3, 3):
            if wished_goods(market):
                for thing in helper.wrong_prices(market, self.dear_prices(market, chance)):
                    for call in OF_PAYABLE_PRICES:
                        self.assert_refused(NoPrices, call, market, thing)

    def test_unwished_alone(self):
        for market in helper.with_wishless(74, 60):
            for call in OF_A_MARKET:
                self.assert_refused(Unwished, call, market)

    def test_a_buyer_that_wishes_nothing_is_no_reason_where_prices_are_handed_in(self):
        chance = random.Random(75)
        for market in helper.with_wishless(75, 60):
            prices = helper.payable_prices(market, chance)
            for call in OF_ANY_PRICES + OF_PAYABLE_PRICES:
                call(market, prices)

    def test_no_buyer_ahead_of_unwished(self):
        for market in helper.with_wishless(76, 20) + helper.some_markets(76, 20):
            for number in [-1, len(market[1]), helper.LARGEST, -helper.LARGEST]:
                self.assert_refused(NoBuyer, stretch, market, number)

    def test_what_is_refused_leaves_nothing_behind(self):
        chance = random.Random(77)
        for market in helper.some_markets(77, 30, 4, 4):
            told = [call(market) for call in TOLD_OF_A_MARKET]
            bare = (market[0], market[1], ((0,) * len(market[0]),) * len(market[1]))
            for call in OF_A_MARKET:
                self.assert_refused(Unwished, call, bare)
            for call in OF_PAYABLE_PRICES:
                self.assert_refused(Dear, call, market, self.dear_prices(market, chance))
            self.assertEqual([call(market) for call in TOLD_OF_A_MARKET], told)


class SameAgainTest(unittest.TestCase):
    def answers(self, market, prices):
        told = [call(market, prices) for call in OF_ANY_PRICES + OF_PAYABLE_PRICES]
        return told + [call(market) for call in TOLD_OF_A_MARKET]

    def test_the_same_again_and_of_another_market_in_between(self):
        chance = random.Random(78)
        cases = [(market, helper.payable_prices(market, chance)) for market in helper.some_markets(78, 40, 5, 5)]
        before = repr(cases)
        told = [copy.deepcopy(self.answers(*case)) for case in cases]
        for at in chance.sample(range(len(cases)), len(cases)):
            self.assertEqual(self.answers(*cases[at]), told[at])
        self.assertEqual(repr(cases), before)

    def test_each_call_behind_each_other_one(self):
        chance = random.Random(79)
        for market in helper.some_markets(79, 4, 4, 4):
            prices = helper.payable_prices(market, chance)
            calls = [lambda call=call: call(market, prices) for call in OF_ANY_PRICES + OF_PAYABLE_PRICES]
            calls += [lambda call=call: call(market) for call in TOLD_OF_A_MARKET]
            told = [call() for call in calls]
            for one, other in itertools.product(range(len(calls)), repeat=2):
                calls[one]()
                self.assertEqual(calls[other](), told[other])

    def test_lists_are_the_askers_own(self):
        chance = random.Random(80)
        for market in helper.some_markets(80, 30, 4, 4):
            prices = helper.payable_prices(market, chance)
            told = rises(market, prices)
            kept = list(told)
            fair = Fair(market)
            last = fair.last_rises()
            told[:], last[:] = ["other"], ["other"]
            self.assertEqual(rises(market, prices), kept)
            self.assertEqual(fair.last_rises(), rises(market, first_prices(market)))
            self.assertEqual(clear(market)[0], fair.prices())


if __name__ == "__main__":
    unittest.main()
