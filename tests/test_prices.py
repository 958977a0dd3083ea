"""Promise 7: prices, money, best goods, takers; and promise 2 as far as it speaks of them."""

import copy
import itertools
import random
import unittest

import helper
from helper import LARGEST, pair, pairs, subsets, with_part
from wishmart.errors import MartError, NoPrices
from wishmart.prices import are_prices, best_goods, money_of, takers

# Good 1 is free.
FREE = ((2, 3, 4), ((5, 1), (7, 2)), ((3, 0, 1), (0, 0, 2)))
# Buyer 1 wishes nothing.
LOST = ((1, 2), ((1, 1), (2, 1)), ((3, 4), (0, 0)))
NOBODY = ((5, 6), ((1, 2),), ((0, 0),))
SAMPLES = [
    (FREE, ((1, 2), (0, 1), (7, 1))),
    (LOST, ((3, 1), (4, 1))),
    (NOBODY, ((0, 1), (0, 1))),
    (((60,), ((1, 1000000),), ((100,),)), ((LARGEST, LARGEST - 1),)),
    (((1,) * 6, ((1, 1),) * 6, ((1, 2, 3, 0, 5, 6),) * 6),
     ((1, 1), (1, 2), (2, 1), (0, 1), (1, LARGEST), (LARGEST, 1))),
]


def markets_and_prices(seed, many):
    """Markets, some with buyers that wish nothing, each with prices of it."""
    chance = random.Random(seed)
    for market in helper.some_markets(seed, many) + helper.with_wishless(seed, many // 2):
        yield market, helper.any_prices(market, chance)


class ArePricesTest(unittest.TestCase):
    def test_prices(self):
        for market, prices in SAMPLES:
            self.assertIs(are_prices(market, prices), True, (market, prices))

    def test_many_prices(self):
        for market, prices in markets_and_prices(1, 200):
            self.assertIs(are_prices(market, prices), True, (market, prices))

    def test_one_part_put_otherwise(self):
        for market, prices in SAMPLES:
            for thing in helper.wrong_prices(market, prices):
                self.assertIs(are_prices(market, thing), False, (market, thing))

    def test_one_part_put_otherwise_in_many_markets(self):
        for market, prices in markets_and_prices(2, 20):
            for thing in helper.wrong_prices(market, prices):
                self.assertIs(are_prices(market, thing), False, (market, thing))

    def test_any_price_above_nought_for_a_wished_good(self):
        for price in [(1, 1), (1, 2), (2, 1), (1, LARGEST), (LARGEST, 1), (LARGEST, LARGEST - 1),
                      (10 ** 90 + 1, 10 ** 90)]:
            self.assertIs(are_prices(FREE, (price, (0, 1), (1, 1))), True)
            self.assertIs(are_prices(FREE, ((1, 1), price, (1, 1))), False)
            self.assertIs(are_prices(FREE, ((1, 1), (0, 1), price)), True)

    def test_all_tuples_of_small_parts(self):
        parts = [(0, 1), (1, 1), (1, 2), (-1, 1), (2, 2), (0, 2), (1, 0), (True, 1), None]
        for chosen in itertools.product(range(len(parts)), repeat=3):
            thing = tuple(parts[at] for at in chosen)
            fits = chosen[0] in (1, 2) and chosen[1] == 0 and chosen[2] in (1, 2)
            self.assertIs(are_prices(FREE, thing), fits, thing)

    def test_free_goods_of_a_market_that_nobody_wishes(self):
        for thing in itertools.product([(0, 1), (1, 1), (0, 2)], repeat=2):
            self.assertIs(are_prices(NOBODY, thing), thing == ((0, 1), (0, 1)), thing)

    def test_too_few_and_too_many(self):
        for goods in range(1, 7):
            market = ((1,) * goods, ((1, 1),), ((1,) * goods,))
            for many in range(9):
                self.assertIs(are_prices(market, ((1, 1),) * many), many == goods)

    def test_a_deep_nest(self):
        deep = helper.deep_nest()
        self.assertIs(are_prices(FREE, deep), False)
        for good in range(3):
            self.assertIs(are_prices(FREE, with_part(SAMPLES[0][1], (good,), deep)), False)
            self.assertIs(are_prices(FREE, with_part(SAMPLES[0][1], (good, 0), deep)), False)

    def test_things_stay_as_they_were(self):
        for thing in helper.wrong_prices(FREE, SAMPLES[0][1]):
            before = copy.deepcopy(thing)
            told = are_prices(FREE, thing)
            # By their texts, for True and 1 are alike to Python.
            self.assertEqual(repr(thing), repr(before))
            self.assertIs(are_prices(FREE, thing), told)


class MoneyTest(unittest.TestCase):
    def test_told_as_written_out(self):
        prices = ((1, 2), (0, 1), (7, 3))
        for goods, told in [((), (0, 1)), ((0,), (1, 1)), ((1,), (0, 1)), ((2,), (28, 3)), ((0, 2), (31, 3)),
                            ((0, 1), (1, 1)), ((1, 2), (28, 3)), ((0, 1, 2), (31, 3))]:
            self.assertEqual(money_of(FREE, prices, goods), told)

    def test_all_sets(self):
        for market, prices in markets_and_prices(3, 60):
            for goods in subsets(range(len(prices))):
                told = money_of(market, prices, goods)
                self.assertTrue(helper.is_lowest(told), told)
                self.assertEqual(told, pair(helper.money(market, prices, goods)))

    def test_large_prices(self):
        market = ((60, 59), ((1, 1),), ((1, 1),))
        prices = ((LARGEST, LARGEST - 1), (1, LARGEST))
        self.assertEqual(money_of(market, prices, (0, 1)), pair(helper.money(market, prices, (0, 1))))


class BestGoodsTest(unittest.TestCase):
    def test_told_as_written_out(self):
        ones = ((1, 1),) * 3
        for wishes, prices, told in [
            ((3, 0, 0), ((5, 1), (1, 9), (1, 9)), (0,)),
            ((1, 2, 3), ones, (2,)), ((3, 3, 1), ones, (0, 1)), ((2, 2, 2), ones, (0, 1, 2)),
            ((1, 2, 3), ((1, 1), (2, 1), (3, 1)), (0, 1, 2)), ((1, 2, 3), ((1, 1), (2, 1), (4, 1)), (0, 1)),
            ((1, 2, 3), ((1, 3), (2, 3), (1, 1)), (0, 1, 2)), ((1, 2, 3), ((1, 3), (2, 3), (2, 1)), (0, 1)),
            ((100, 99, 0), ones, (0,)), ((100, 99, 0), ((100, 1), (99, 1), (1, LARGEST)), (0, 1)),
            ((1, 1, 1), ((LARGEST, LARGEST - 1), (LARGEST - 1, LARGEST - 2), (2, 1)), (0,)),
            ((0, 0, 0), ones, ()),
        ]:
            with self.subTest(wishes=wishes, prices=prices):
                # The second buyer makes all goods wished ones.
                market = ((1, 2, 3), ((1, 1), (1, 1)), (wishes, (1, 1, 1)))
                self.assertEqual(best_goods(market, prices)[0], told)

    def test_against_all_pairs_of_goods(self):
        several = 0
        for market, prices in markets_and_prices(4, 300):
            told = best_goods(market, prices)
            self.assertIs(type(told), tuple)
            self.assertTrue(all(helper.is_rising(mine) for mine in told), told)
            self.assertEqual(told, helper.best(market, prices))
            several += any(len(mine) > 1 for mine in told)
        self.assertGreater(several, 100)

    def test_nothing_just_for_a_buyer_that_wishes_nothing(self):
        for market, prices in markets_and_prices(5, 100):
            for row, mine in zip(market[2], best_goods(market, prices)):
                self.assertEqual(mine == (), not any(row))
        self.assertEqual(best_goods(LOST, ((3, 1), (4, 1))), ((0, 1), ()))
        self.assertEqual(best_goods(NOBODY, ((0, 1), (0, 1))), ((),))

    def test_amounts_and_purses_do_not_matter(self):
        wishes, prices = ((1, 2), (2, 1)), ((1, 1), (2, 1))
        for amounts in [(1, 60), (60, 1)]:
            for purses in [((1, 1), (9, 1)), ((9, 1), (1, 9))]:
                self.assertEqual(best_goods((amounts, purses, wishes), prices), ((0, 1), (0,)))


class TakersTest(unittest.TestCase):
    def test_told_as_written_out(self):
        market = ((1, 1, 1, 9), ((1, 1),) * 4, ((1, 1, 0, 0), (0, 1, 1, 0), (0, 0, 5, 0), (0, 0, 0, 0)))
        prices = ((1, 1), (1, 1), (1, 1), (0, 1))
        for goods, told in [((), ()), ((0,), (0,)), ((1,), (0, 1)), ((2,), (1, 2)), ((3,), ()), ((0, 1), (0, 1)),
                            ((0, 2), (0, 1, 2)), ((0, 1, 2), (0, 1, 2)), ((0, 1, 2, 3), (0, 1, 2)), ((0, 3), (0,))]:
            self.assertEqual(takers(market, prices, goods), told)

    def test_all_sets(self):
        for market, prices in markets_and_prices(6, 100):
            for goods in subsets(range(len(prices))):
                told = takers(market, prices, goods)
                self.assertTrue(helper.is_rising(told), told)
                self.assertEqual(told, helper.takers_of(market, prices, goods))

    def test_a_good_that_is_best_for_nobody(self):
        self.assertEqual(takers(((1, 1), ((1, 1),), ((1, 1),)), ((1, 1), (2, 1)), (1,)), ())


class RefusedTest(unittest.TestCase):
    CALLS = [best_goods] + [lambda market, prices, call=call, goods=goods: call(market, prices, goods)
                            for call in (money_of, takers) for goods in ((), (0,))]

    def test_no_prices(self):
        for market, prices in SAMPLES:
            for thing in helper.wrong_prices(market, prices):
                for call in self.CALLS:
                    with self.assertRaises(NoPrices) as caught:
                        call(market, thing)
                    self.assertIsInstance(caught.exception, MartError)

    def test_refused_things_stay_as_they_were(self):
        for thing in helper.wrong_prices(FREE, SAMPLES[0][1]):
            before = copy.deepcopy(thing)
            for call in self.CALLS:
                self.assertRaises(NoPrices, call, FREE, thing)
            self.assertEqual(repr(thing), repr(before))

    def test_the_same_again(self):
        for market, prices in markets_and_prices(7, 20):
            before = repr((market, prices))
            for call in self.CALLS:
                self.assertEqual(call(market, prices), call(market, prices))
            self.assertEqual(repr((market, prices)), before)

    def test_refused_prices_leave_nothing_behind(self):
        for market, prices in SAMPLES:
            told = best_goods(market, prices)
            self.assertRaises(NoPrices, best_goods, market, pairs([]))
            self.assertEqual(best_goods(market, prices), told)


if __name__ == "__main__":
    unittest.main()
