"""Promises 8 and 9: goods too dear, buyers too rich, goods paid up; and promise 2 as far as it speaks of them."""

import itertools
import random
import unittest
from fractions import Fraction

import helper
from helper import money, pairs, purses_of, scaled, subsets, takers_of, wished_goods
from wishmart.errors import Dear, NoPrices
from wishmart.sets import dear_goods, paid_goods, rich_buyers

TINY = Fraction(1, 10 ** 12)


def small_cases():
    """All markets of two goods and two buyers with small numbers, each at some small prices."""
    wishes = list(itertools.product([0, 1, 2], repeat=2))
    for rows in itertools.product(wishes, repeat=2):
        for purses in [(1, 1), (1, 2), (3, 1), (3, 3)]:
            market = ((1, 2), pairs(purses), rows)
            wanted = wished_goods(market)
            for numbers in itertools.product([Fraction(1, 2), 1, 2], repeat=2):
                yield market, pairs(number if good in wanted else 0 for good, number in enumerate(numbers))


def mixed_cases(seed, many):
    """Many markets, also with free goods and buyers that wish nothing, with money at, above and below the purses."""
    chance = random.Random(seed)
    markets = helper.some_markets(seed, many, 4, 4) + helper.with_wishless(seed, many // 2)
    for market in markets + helper.some_markets(seed + 1, many // 10, least=5):
        prices = chance.choice([helper.any_prices, helper.taken_prices])(market, chance)
        yield market, prices
        # Where all prices are multiplied alike the takers stay, so that any set can be brought just to its purses.
        some = chance.choice(subsets(wished_goods(market)))
        buyers = takers_of(market, prices, some)
        if buyers:
            factor = purses_of(market, buyers) / money(market, prices, some)
            for change in [0, TINY, -TINY]:
                yield market, scaled(prices, factor * (1 + change))
        if wished_goods(market):
            for change in [0, TINY, -TINY]:
                yield market, scaled(helper.just_paid(market, helper.taken_prices(market, chance)), 1 + change)


class SetsCase(unittest.TestCase):
    def assert_least_of_most(self, told, above):
        """Just the least of the sets that are above by most, within all others."""
        most = max(above.values())
        sets = [some for some in above if above[some] == most]
        self.assertTrue(helper.is_rising(told), told)
        self.assertEqual(told, tuple(sorted(set.intersection(*map(set, sets)))))
        self.assertIn(told, sets)
        if most == 0:
            self.assertEqual(told, ())
        return most > 0

    def assert_greatest_paid(self, told, above):
        sets = [some for some in above if above[some] == 0]
        self.assertTrue(helper.is_rising(told), told)
        self.assertEqual(told, tuple(sorted(set().union(*sets))))
        self.assertIn(told, sets)
        return told != ()

    def check(self, market, prices, seen):
        above = helper.goods_too_dear_by(market, prices)
        dear = self.assert_least_of_most(dear_goods(market, prices), above)
        rich = self.assert_least_of_most(rich_buyers(market, prices), helper.buyers_too_rich_by(market, prices))
        if dear:
            self.assertRaises(Dear, paid_goods, market, prices)
            paid = False
        else:
            paid = self.assert_greatest_paid(paid_goods(market, prices), above)
        seen[dear, rich, paid] = seen.get((dear, rich, paid), 0) + 1


class AgainstAllSetsTest(SetsCase):
    def test_small_markets(self):
        seen = {}
        for market, prices in small_cases():
            self.check(market, prices, seen)
        # Prices of each sort came by: dear, rich or both, and neither or rich with goods paid or none.
        self.assertEqual(len(seen), 5, seen)

    def test_mixed_markets(self):
        seen = {}
        for market, prices in mixed_cases(1, 150):
            self.check(market, prices, seen)
        self.assertEqual(len(seen), 5, seen)
        self.assertGreater(min(seen.values()), 5, seen)


class DearGoodsTest(unittest.TestCase):
    # Two buyers with the purses 3 and 5, each wishing one good of its own alone; good 2 is free.
    APART = ((1, 2, 9), ((3, 1), (5, 1)), ((1, 0, 0), (0, 1, 0)))

    def test_one_good(self):
        market = ((4,), ((3, 1), (5, 1)), ((1,), (7,)))
        for price, told in [((2, 1), ()), ((1, 1), ()), ((2000001, 1000000), (0,)), ((1999999, 1000000), ())]:
            self.assertEqual(dear_goods(market, (price,)), told)

    def test_goods_apart(self):
        for one, other, told in [((3, 1), (5, 2), ()), ((4, 1), (5, 2), (0,)), ((3, 1), (3, 1), (1,)),
                                 ((4, 1), (3, 1), (0, 1)), ((1, 9), (9, 1), (1,)), ((1, 1), (1, 1), ())]:
            self.assertEqual(dear_goods(self.APART, (one, other, (0, 1))), told)

    def test_the_least_of_several(self):
        # Good 0 is too dear by 1; with good 1, which is just paid up, it is so by 1 as well.
        self.assertEqual(dear_goods(self.APART, ((4, 1), (5, 2), (0, 1))), (0,))

    def test_a_good_that_is_best_for_nobody_is_too_dear(self):
        market = ((1, 1), ((100, 1),), ((1, 1),))
        self.assertEqual(dear_goods(market, ((1, 1), (2, 1))), (1,))
        self.assertEqual(dear_goods(market, ((1, 1), (1, 1))), ())

    def test_goods_too_dear_together_only(self):
        # One buyer takes both: either good alone can be paid, both cannot.
        market = ((1, 1), ((3, 1),), ((1, 1),))
        self.assertEqual(dear_goods(market, ((2, 1), (2, 1))), (0, 1))
        self.assertEqual(dear_goods(market, ((3, 2), (3, 2))), ())

    def test_nothing_wished(self):
        market = ((1, 1), ((3, 1),), ((0, 0),))
        self.assertEqual(dear_goods(market, ((0, 1), (0, 1))), ())


class RichBuyersTest(unittest.TestCase):
    APART = DearGoodsTest.APART

    def test_buyers_apart(self):
        for one, other, told in [((3, 1), (5, 2), ()), ((2, 1), (5, 2), (0,)), ((3, 1), (2, 1), (1,)),
                                 ((2, 1), (2, 1), (0, 1)), ((9, 1), (1, 9), (1,)), ((9, 1), (9, 1), ())]:
            self.assertEqual(rich_buyers(self.APART, (one, other, (0, 1))), told)

    def test_buyers_too_rich_together_only(self):
        market = ((1,), ((2, 1), (2, 1)), ((1,), (1,)))
        self.assertEqual(rich_buyers(market, ((3, 1),)), (0, 1))
        self.assertEqual(rich_buyers(market, ((4, 1),)), ())

    def test_a_buyer_that_wishes_nothing_is_too_rich(self):
        market = ((1,), ((1, 1000000), (2, 1)), ((0,), (1,)))
        self.assertEqual(rich_buyers(market, ((2, 1),)), (0,))
        self.assertEqual(rich_buyers(market, ((1, 1),)), (0, 1))
        self.assertEqual(rich_buyers(((1,), ((1, 1), (2, 1)), ((0,), (0,))), ((0, 1),)), (0, 1))


class PaidGoodsTest(unittest.TestCase):
    APART = DearGoodsTest.APART

    def test_goods_apart(self):
        for one, other, told in [((3, 1), (5, 2), (0, 1)), ((2, 1), (5, 2), (1,)), ((3, 1), (2, 1), (0,)),
                                 ((2, 1), (2, 1), ())]:
            self.assertEqual(paid_goods(self.APART, (one, other, (0, 1))), told)

    def test_goods_paid_together_only(self):
        market = ((1, 1), ((3, 1),), ((1, 1),))
        self.assertEqual(paid_goods(market, ((3, 2), (3, 2))), (0, 1))
        self.assertEqual(paid_goods(market, ((1, 1), (1, 1))), ())

    def test_nothing_wished(self):
        self.assertEqual(paid_goods(((1, 1), ((3, 1),), ((0, 0),)), ((0, 1), (0, 1))), ())

    def test_dear(self):
        for one, other in [((4, 1), (5, 2)), ((3, 1), (3, 1)), ((3000001, 1000000), (1, 1)), ((9, 1), (9, 1))]:
            with self.assertRaises(Dear) as caught:
                paid_goods(self.APART, (one, other, (0, 1)))
            self.assertIs(type(caught.exception), Dear)


class RefusedTest(unittest.TestCase):
    CALLS = [dear_goods, rich_buyers, paid_goods]

    def test_no_prices(self):
        # The second prices are too dear: NoPrices goes ahead of Dear.
        for prices in [((1, 1), (5, 2), (0, 1)), ((9, 1), (9, 1), (0, 1))]:
            for thing in helper.wrong_prices(DearGoodsTest.APART, prices):
                before = repr(thing)
                for call in self.CALLS:
                    with self.assertRaises(NoPrices):
                        call(DearGoodsTest.APART, thing)
                self.assertEqual(repr(thing), before)

    def test_the_same_again(self):
        for market, prices in itertools.islice(mixed_cases(2, 20), 100):
            before = repr((market, prices))
            for call in self.CALLS[:2]:
                self.assertEqual(call(market, prices), call(market, prices))
            self.assertEqual(repr((market, prices)), before)


if __name__ == "__main__":
    unittest.main()
