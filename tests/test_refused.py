"""Promise 2 over the program: refusals, each of its own class alone and in their order; the same again the same."""

import copy
import itertools
import random
import unittest
from fractions import Fraction

import helper
from helper import scaled, wished_goods
from wishmart.barters import barred, is_barter, lets_by, market_at
from wishmart.clearing import clear, shows, worths
from wishmart.desk import Desk
from wishmart.errors import (Dear, MartError, NoBuyer, NoDealing, NoGood, NoMarket, NoNumber, NoPrices, NoRow, Nothing,
                             NoText, Unwished)
from wishmart.fairs import Fair
from wishmart.fractions import fraction, over
from wishmart.goodness import gain, rather
from wishmart.markets import is_market
from wishmart.pieces import whole
from wishmart.prices import are_prices, best_goods, money_of, takers
from wishmart.rises import first_prices, rise, rises
from wishmart.sets import dear_goods, paid_goods, rich_buyers
from wishmart.stretches import stretch
from wishmart.texts import fraction_text, market_text, read_fraction, read_market

# What is asked of a market and prices: what can't be paid is refused by the second ones only.
OF_ANY_PRICES = [dear_goods, rich_buyers, best_goods, lambda market, prices: money_of(market, prices, (0,)),
                 lambda market, prices: takers(market, prices, (0,)), lambda market, prices: shows(market, prices, ())]
OF_PAYABLE_PRICES = [paid_goods, rise, rises]
# What is asked of a market alone, and refused where a buyer wishes nothing.
OF_A_MARKET = [first_prices, clear, worths, whole, lambda market: stretch(market, 0), Fair]
TOLD_OF_A_MARKET = OF_A_MARKET[:-1]


class RefusedCase(unittest.TestCase):
    def assert_refused(self, error, call, *handed_in):
        before = repr(handed_in)
        with self.assertRaises(ValueError) as caught:
            call(*handed_in)
        self.assertIs(type(caught.exception), error, handed_in)
        self.assertEqual(type(caught.exception).__mro__[1:3], (MartError, ValueError))
        self.assertEqual(repr(handed_in), before)


class RefusedTest(RefusedCase):
    def dear_prices(self, market, chance):
        prices = helper.just_paid(market, helper.taken_prices(market, chance))
        return scaled(prices, chance.choice([2, Fraction(10 ** 12 + 1, 10 ** 12)]))

    def test_no_prices_alone(self):
        chance = random.Random(71)
        for market in helper.some_markets(71, 3, 3, 3) + helper.with_wishless(71, 3, 3):
            for thing in helper.wrong_prices(market, helper.payable_prices(market, chance)):
                for call in OF_ANY_PRICES + OF_PAYABLE_PRICES:
                    self.assert_refused(NoPrices, call, market, thing)

    def test_dear_alone(self):
        chance = random.Random(72)
        for market in helper.some_markets(72, 60) + helper.with_wishless(72, 20):
            if wished_goods(market):
                prices = self.dear_prices(market, chance)
                for call in OF_PAYABLE_PRICES:
                    self.assert_refused(Dear, call, market, prices)
                for call in OF_ANY_PRICES:
                    call(market, prices)

    def test_no_prices_ahead_of_dear(self):
        chance = random.Random(73)
        for market in helper.some_markets(73, 3, 3, 3) + helper.with_wishless(73, 3, 3):
            if wished_goods(market):
                for thing in helper.wrong_prices(market, self.dear_prices(market, chance)):
                    for call in OF_PAYABLE_PRICES:
                        self.assert_refused(NoPrices, call, market, thing)

    def test_unwished_alone(self):
        for market in helper.with_wishless(74, 60):
            for call in OF_A_MARKET:
                self.assert_refused(Unwished, call, market)

    def test_a_buyer_that_wishes_nothing_is_no_reason_where_prices_are_handed_in(self):
        chance = random.Random(75)
        for market in helper.with_wishless(75, 60):
            prices = helper.payable_prices(market, chance)
            for call in OF_ANY_PRICES + OF_PAYABLE_PRICES:
                call(market, prices)

    def test_no_buyer_ahead_of_unwished(self):
        for market in helper.with_wishless(76, 20) + helper.some_markets(76, 20):
            for number in [-1, len(market[1]), helper.LARGEST, -helper.LARGEST]:
                self.assert_refused(NoBuyer, stretch, market, number)

    def test_what_is_refused_leaves_nothing_behind(self):
        chance = random.Random(77)
        for market in helper.some_markets(77, 30, 4, 4):
            told = [call(market) for call in TOLD_OF_A_MARKET]
            bare = (market[0], market[1], ((0,) * len(market[0]),) * len(market[1]))
            for call in OF_A_MARKET:
                self.assert_refused(Unwished, call, bare)
            for call in OF_PAYABLE_PRICES:
                self.assert_refused(Dear, call, market, self.dear_prices(market, chance))
            self.assertEqual([call(market) for call in TOLD_OF_A_MARKET], told)


# A market of two goods and two buyers, with prices, a dealing, a text, and a barter of as many goods and hands.
MARKET = ((2, 2), ((2, 1), (2, 1)), ((1, 1), (1, 1)))
BARE = (MARKET[0], MARKET[1], ((1, 1), (0, 0)))
PRICES = ((1, 1), (1, 1))
DEALING = (((1, 1), (1, 1)), ((1, 1), (1, 1)))
NOTHING = (((0, 1), (0, 1)), ((0, 1), (0, 1)))
BARTER = (((1, 0), (0, 1)), ((0, 1), (1, 0)))
TEXT = "amounts 2 2\nbuyer 2 1 1\nbuyer 2 1 1"

# Each refusal of the program, and what it is due for.
REFUSALS = {
    NoNumber: [(fraction, 1, 0), (over, (1, 2), (0, 1)), (Fair(MARKET).purse, 0, (2, 2)),
               (Fair(MARKET).amount, 0, 61), (Fair(MARKET).wish, 0, 0, -1), (gain, MARKET, DEALING, NOTHING),
               (Desk(TEXT).say, "amount 0 0")],
    NoMarket: [(Fair, None), (Fair, list(MARKET)), (Fair, [[1], [2]])],
    NoPrices: [*[(call, MARKET, [1, 1]) for call in OF_ANY_PRICES + OF_PAYABLE_PRICES], (market_at, BARTER, [1, 1])],
    Dear: [(call, MARKET, ((9, 1), (9, 1))) for call in OF_PAYABLE_PRICES],
    Unwished: [*[(call, BARE) for call in OF_A_MARKET], (Desk, TEXT[:-3] + "0 0"),
               (Fair(((1,), ((1, 1),), ((1,),))).wish, 0, 0, 0)],
    NoBuyer: [(stretch, MARKET, 2), (Fair(MARKET).purse, 2, (1, 1)), (Fair(MARKET).wish, -1, 0, 1),
              (Desk(TEXT).say, "stretch 2"), (Desk(TEXT).say, "purse 2 1")],
    NoGood: [(Fair(MARKET).amount, 2, 1), (Fair(MARKET).wish, 0, -1, 1), (Desk(TEXT).say, "amount 2 1")],
    Nothing: [(Fair(MARKET).back,), (Desk(TEXT).say, "back")],
    NoDealing: [(rather, MARKET, [DEALING]), (gain, MARKET, [], DEALING), (gain, MARKET, DEALING, [[1]]),
                (gain, MARKET, None, NOTHING)],
    NoText: [(read_fraction, [1]), (read_market, ["amounts"]), (Desk, [TEXT]), (Desk, ""), (read_fraction, "1/1")],
    NoRow: [(Desk(TEXT).say, ["back"]), (Desk(TEXT).say, "purse 9 9/9"), (Desk(TEXT).say, "")],
}


class EachRefusalTest(RefusedCase):
    def test_each_is_of_its_own_class_alone(self):
        self.assertEqual(set(REFUSALS), set(MartError.__subclasses__()))
        for error, calls in REFUSALS.items():
            for call in calls:
                # Also when asked again.
                for _ in range(2):
                    self.assert_refused(error, *call)


class AnythingTest(unittest.TestCase):
    CALLS = [is_market, is_barter, Fair, Desk, Desk(TEXT).say, read_fraction, read_market,
             lambda thing: are_prices(MARKET, thing), lambda thing: shows(MARKET, PRICES, thing),
             lambda thing: dear_goods(MARKET, thing), lambda thing: market_at(BARTER, thing),
             lambda thing: lets_by(BARTER, thing, thing), lambda thing: rather(MARKET, thing),
             lambda thing: gain(MARKET, thing, DEALING), lambda thing: gain(MARKET, DEALING, thing),
             lambda thing: Fair(MARKET).purse(0, thing), lambda thing: Fair(MARKET).amount(0, thing),
             lambda thing: Fair(MARKET).wish(0, 0, thing)]

    def answer(self, call, thing):
        """True, False, or the class of the refusal; what else can be told of so odd a thing is told as its text."""
        try:
            told = call(thing)
        except MartError as error:
            return type(error)
        return told if told in (True, False) else repr(type(told))

    def nested_lists(self, chance, depth=0):
        """Things made of whole numbers, texts, truths, None, lists and tuples."""
        if depth > 3 or chance.random() < 0.4:
            return chance.choice([0, 1, 2, -1, 60, helper.LARGEST, True, False, None, "", "1", "back", "buyer", TEXT])
        parts = [self.nested_lists(chance, depth + 1) for _ in range(chance.randint(0, 3))]
        return chance.choice([parts, tuple(parts)])

    def test_things_stay_as_they_were_and_the_same_again_is_answered_the_same(self):
        chance = random.Random(81)
        things = helper.ODD_THINGS + helper.NO_FRACTIONS + [MARKET, PRICES, DEALING, BARTER, TEXT]
        things += [[list(part) for part in thing] for thing in [MARKET, PRICES, DEALING, BARTER]]
        things += [tuple(list(part) for part in thing) for thing in [MARKET, PRICES, DEALING, BARTER]]
        things += [self.nested_lists(chance) for _ in range(200)]
        for thing in things:
            before = repr(copy.deepcopy(thing))
            told = [self.answer(call, thing) for call in self.CALLS]
            self.assertEqual([self.answer(call, thing) for call in self.CALLS], told)
            self.assertEqual(repr(thing), before)

    def test_what_is_told_may_be_handed_in_again(self):
        for market in helper.some_markets(82, 30, 5, 5):
            prices, dealing = clear(market)
            self.assertTrue(are_prices(market, prices))
            self.assertTrue(shows(market, prices, dealing))
            self.assertEqual(rather(market, dealing), [])
            self.assertEqual(gain(market, dealing, dealing), (0, 1))
            self.assertEqual(read_fraction(fraction_text(prices[0])), prices[0])
            self.assertEqual(Fair(Fair(market).market()).prices(), prices)
            self.assertEqual(Desk(market_text(market)).say("market"), market_text(market))


class SameAgainTest(unittest.TestCase):
    def answers(self, market, prices):
        told = [call(market, prices) for call in OF_ANY_PRICES + OF_PAYABLE_PRICES]
        return told + [call(market) for call in TOLD_OF_A_MARKET]

    def test_the_same_again_and_of_another_market_in_between(self):
        chance = random.Random(78)
        cases = [(market, helper.payable_prices(market, chance)) for market in helper.some_markets(78, 40, 5, 5)]
        before = repr(cases)
        told = [copy.deepcopy(self.answers(*case)) for case in cases]
        for at in chance.sample(range(len(cases)), len(cases)):
            self.assertEqual(self.answers(*cases[at]), told[at])
        self.assertEqual(repr(cases), before)

    def test_each_call_behind_each_other_one(self):
        chance = random.Random(79)
        for market in helper.some_markets(79, 4, 4, 4):
            prices = helper.payable_prices(market, chance)
            calls = [lambda call=call: call(market, prices) for call in OF_ANY_PRICES + OF_PAYABLE_PRICES]
            calls += [lambda call=call: call(market) for call in TOLD_OF_A_MARKET]
            told = [call() for call in calls]
            for one, other in itertools.product(range(len(calls)), repeat=2):
                calls[one]()
                self.assertEqual(calls[other](), told[other])

    def test_barters_and_texts_again(self):
        for _ in range(2):
            self.assertIs(barred(BARTER), None)
            self.assertEqual(market_at(BARTER, PRICES), ((1, 1), PRICES, BARTER[1]))
            self.assertIs(lets_by(BARTER, PRICES, (((0, 1), (1, 1)), ((1, 1), (0, 1)))), True)
            self.assertEqual(read_market(TEXT), MARKET)
            self.assertEqual(market_text(MARKET), TEXT)

    def test_lists_are_the_askers_own(self):
        chance = random.Random(80)
        for market in helper.some_markets(80, 30, 4, 4):
            prices = helper.payable_prices(market, chance)
            told = rises(market, prices)
            kept = list(told)
            fair = Fair(market)
            last = fair.last_rises()
            nothing = (((0, 1),) * len(market[0]),) * len(market[1])
            pairs = rather(market, nothing)
            told[:], last[:], pairs[:] = ["other"], ["other"], ["other"]
            self.assertEqual(rather(market, nothing), [])
            self.assertEqual(rises(market, prices), kept)
            self.assertEqual(fair.last_rises(), rises(market, first_prices(market)))
            self.assertEqual(clear(market)[0], fair.prices())


if __name__ == "__main__":
    unittest.main()
