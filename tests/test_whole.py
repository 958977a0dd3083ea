"""Promise 3: what it says of prices that clear, rises, goods too dear, buyers too rich, worths, and growing purses.

What it says of fairs, stretches, whole dealings, how good a dealing is, and barters is held in the tests of these.
"""

import random
import unittest
from fractions import Fraction

import helper
from helper import MILLION, best, pair, pairs, scaled, value, wished_goods, with_part
from wishmart.clearing import clear, shows, worths
from wishmart.markets import is_market
from wishmart.rises import first_prices, rises
from wishmart.sets import dear_goods, rich_buyers

MARKETS = helper.some_markets(21, 100) + helper.some_markets(22, 20, least=6) + helper.alike_markets(23, 20)


def reordered(market, goods, buyers):
    """The market with its goods and its buyers in another order."""
    amounts, purses, wishes = market
    return (tuple(amounts[good] for good in goods), tuple(purses[buyer] for buyer in buyers),
            tuple(tuple(wishes[buyer][good] for good in goods) for buyer in buyers))


def orders(market, chance):
    return [chance.sample(range(len(part)), len(part)) for part in market[:2]]


class OneRowOfPricesTest(unittest.TestCase):
    def test_goods_and_buyers_in_another_order(self):
        chance = random.Random(1)
        for market in MARKETS:
            prices = clear(market)[0]
            goods, buyers = orders(market, chance)
            self.assertEqual(clear(reordered(market, goods, buyers))[0], tuple(prices[good] for good in goods))

    def test_all_purses_multiplied_alike(self):
        for market in MARKETS:
            for factor in [Fraction(3), Fraction(1, 2), Fraction(7, 5)]:
                richer = (market[0], scaled(market[1], factor), market[2])
                if is_market(richer):
                    self.assertEqual(clear(richer)[0], scaled(clear(market)[0], factor))

    def test_one_buyers_wishes_multiplied_alike(self):
        chance = random.Random(2)
        for market in MARKETS:
            buyer = chance.randrange(len(market[1]))
            for factor in [2, 3, 10, 100]:
                row = tuple(wish * factor for wish in market[2][buyer])
                other = with_part(market, (2, buyer), row)
                if is_market(other):
                    self.assertEqual(clear(other)[0], clear(market)[0])

    def test_worths_are_those_of_every_dealing_that_shows_the_prices(self):
        chance = random.Random(3)
        others = 0
        for market in MARKETS:
            prices, dealing = clear(market)
            told = worths(market)
            goods, buyers = orders(market, chance)
            moved = clear(reordered(market, goods, buyers))[1]
            back = tuple(tuple(moved[buyers.index(buyer)][goods.index(good)] for good in range(len(goods)))
                         for buyer in range(len(buyers)))
            for other in [dealing, back] + [helper.exchanged(market, prices, dealing, chance) for _ in range(4)]:
                if shows(market, prices, other):
                    self.assertEqual(told, pairs(sum(wish * value(part) for wish, part in zip(wishes, row))
                                                 for wishes, row in zip(market[2], other)))
                    others += other != dealing
        self.assertGreater(others, 20)

    def test_nobody_would_rather_have_what_another_one_has(self):
        for market in MARKETS:
            dealing = clear(market)[1]
            for wishes, purse, own in zip(market[2], market[1], dealing):
                for paid, row in zip(market[1], dealing):
                    worth = [sum(wish * value(part) for wish, part in zip(wishes, got)) for got in (own, row)]
                    self.assertLessEqual(worth[1] / value(paid), worth[0] / value(purse))


class GrowingPurseTest(unittest.TestCase):
    def test_no_price_falls(self):
        chance = random.Random(4)
        for market in MARKETS:
            buyer = chance.randrange(len(market[1]))
            prices = clear(market)[0]
            for factor in [Fraction(MILLION, MILLION - 1), Fraction(3, 2), Fraction(10), Fraction(1000)]:
                richer = with_part(market, (1, buyer), pair(value(market[1][buyer]) * factor))
                if is_market(richer):
                    behind = clear(richer)[0]
                    self.assertTrue(all(value(one) <= value(other) for one, other in zip(prices, behind)))
                    self.assertNotEqual(prices, behind)

    def test_from_the_prices_as_they_were_the_rises_end_at_the_new_ones(self):
        chance = random.Random(5)
        for market in MARKETS:
            buyer = chance.randrange(len(market[1]))
            richer = with_part(market, (1, buyer), pair(value(market[1][buyer]) * 2))
            told = rises(richer, clear(market)[0])
            self.assertEqual(told[-1][2], clear(richer)[0])


class DearAndRichTest(unittest.TestCase):
    def other_prices(self, market, chance):
        """Prices of the market near to those that clear, far from them, and on the way to them."""
        prices = clear(market)[0]
        first = first_prices(market)
        yield from [first, helper.any_prices(market, chance), helper.payable_prices(market, chance)]
        yield from [step[2] for step in rises(market, first)[:3]]
        for factor in [Fraction(10 ** 12 + 1, 10 ** 12), Fraction(10 ** 12, 10 ** 12 + 1), 2, Fraction(1, 2)]:
            yield scaled(prices, factor)
            good = chance.choice(wished_goods(market))
            yield with_part(prices, (good,), pair(value(prices[good]) * factor))

    def test_none_at_the_prices_that_clear(self):
        for market in MARKETS:
            prices = clear(market)[0]
            self.assertEqual(dear_goods(market, prices), ())
            self.assertEqual(rich_buyers(market, prices), ())

    def test_some_at_all_others(self):
        chance = random.Random(6)
        for market in MARKETS:
            told = clear(market)[0]
            for prices in self.other_prices(market, chance):
                none = dear_goods(market, prices) == () and rich_buyers(market, prices) == ()
                self.assertIs(none, prices == told, (market, prices))

    def test_a_market_with_a_buyer_that_wishes_nothing_has_none_that_clear(self):
        chance = random.Random(7)
        for market in helper.with_wishless(7, 60):
            prices = helper.payable_prices(market, chance)
            for behind in [prices] + [step[2] for step in rises(market, prices)]:
                self.assertNotEqual(rich_buyers(market, behind), ())

    def test_by_each_rise_prices_that_can_be_paid_come_to_higher_ones_that_can_be_paid(self):
        for market in MARKETS[::3]:
            prices = first_prices(market)
            for step in rises(market, prices):
                self.assertEqual(dear_goods(market, step[2]), ())
                self.assertTrue(all(value(one) <= value(other) for one, other in zip(prices, step[2])))
                self.assertNotEqual(prices, step[2])
                prices = step[2]
            self.assertTrue(all(best(market, prices)))


if __name__ == "__main__":
    unittest.main()
