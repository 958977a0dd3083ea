"""Promise 18: whole pieces; and promises 2 and 3 as far as they speak of them."""

import itertools
import random
import unittest

import helper
from helper import best, pairs, value, wished_goods
from wishmart.clearing import clear, worths
from wishmart.errors import MartError, Unwished
from wishmart.pieces import whole

MARKETS = helper.some_markets(61, 300) + helper.some_markets(62, 60, least=6)


def ring_markets(seed, many):
    """Markets of goods that are alike good for several buyers, so that coins can go round in rings."""
    chance = random.Random(seed)
    made = []
    while len(made) < many:
        goods, buyers = chance.randint(2, 6), chance.randint(2, 6)
        rows = [[chance.choice([0, 1, 1]) * chance.choice([1, 7]) for _ in range(goods)] for _ in range(buyers)]
        market = (tuple(chance.randint(1, 60) for _ in range(goods)),
                  pairs(helper.PURSES[chance.randrange(2)](chance) for _ in range(buyers)), tuple(map(tuple, rows)))
        if helper.all_wish(market):
            made.append(market)
    return made


class WholeTest(unittest.TestCase):
    def check(self, market):
        """Go through what is told by the words of promise 18."""
        told = whole(market)
        self.assertIs(type(told), tuple)
        self.assertEqual(len(told), 2)
        self.assert_dealt(market, told[0])
        self.assert_lost(market, *told)
        return told

    def assert_dealt(self, market, dealing):
        amounts, purses, wishes = market
        self.assertIs(type(dealing), tuple)
        self.assertEqual(len(dealing), len(purses))
        mine = best(market, clear(market)[0])
        for buyer, row in enumerate(dealing):
            self.assertIs(type(row), tuple)
            self.assertEqual(len(row), len(amounts))
            for good, number in enumerate(row):
                self.assertIs(type(number), int)
                self.assertGreaterEqual(number, 0)
                self.assertTrue(number == 0 or good in mine[buyer], (market, dealing))
        for good, amount in enumerate(amounts):
            self.assertEqual(sum(row[good] for row in dealing), amount if good in wished_goods(market) else 0)

    def assert_lost(self, market, dealing, lost):
        self.assertIs(type(lost), tuple)
        self.assertEqual(len(lost), len(market[1]))
        mine = best(market, clear(market)[0])
        for buyer, (good, worth) in enumerate(zip(lost, worths(market))):
            row = market[2][buyer]
            lack = value(worth) - sum(wish * number for wish, number in zip(row, dealing[buyer]))
            if good is None:
                self.assertLessEqual(lack, 0, (market, dealing, lost))
            else:
                self.assertIs(type(good), int)
                self.assertIn(good, mine[buyer])
                self.assertGreater(lack, 0, (market, dealing, lost))
                self.assertLess(lack, row[good], (market, dealing, lost))

    def test_small_markets(self):
        for rows in itertools.product(itertools.product([0, 1, 3], repeat=2), repeat=2):
            if all(any(row) for row in rows):
                for purses in [(1, 1), (2, 5)]:
                    for amounts in [(1, 1), (1, 2), (3, 2)]:
                        self.check((amounts, pairs(purses), rows))

    def test_many_markets(self):
        parted, losers = 0, 0
        for market in MARKETS:
            dealing, lost = self.check(market)
            parted += any(sum(row[good] > 0 for row in dealing) > 1 for good in range(len(market[0])))
            losers += any(good is not None for good in lost)
        self.assertGreater(parted, 100)
        self.assertGreater(losers, 100)

    def test_goods_that_are_alike_good_for_several_buyers(self):
        for market in helper.alike_markets(63, 60) + ring_markets(64, 200):
            self.check(market)

    def test_great_markets(self):
        for market in helper.GREAT:
            self.check(market)
        ones = ((1,) * 6,) * 6
        for amounts in [(60,) * 6, (1,) * 6, (1, 2, 3, 5, 7, 11), (59, 60, 1, 1, 60, 59)]:
            for purses in [((1, 1),) * 6, pairs(range(1, 7)), pairs([1, 1, 1, 1, 1, helper.MILLION])]:
                for rows in [ones, tuple(tuple(100 - good for good in range(6)) for _ in range(6))]:
                    self.check((amounts, purses, rows))

    def test_fewer_pieces_than_buyers(self):
        for buyers in range(1, 7):
            market = ((1,), ((1, 1),) * buyers, ((5,),) * buyers)
            dealing, lost = self.check(market)
            self.assertEqual(sorted(dealing), [(0,)] * (buyers - 1) + [(1,)])
            self.assertEqual(lost, tuple(None if row == (1,) else 0 for row in dealing))

    def test_where_only_one_dealing_will_do(self):
        # Each buyer has a good of its own, and good 2 is free: nothing is lost.
        self.assertEqual(whole(((1, 2, 9), ((3, 1), (5, 1)), ((1, 0, 0), (0, 1, 0)))),
                         (((1, 0, 0), (0, 2, 0)), (None, None)))
        # Two pieces for two alike buyers: each gets one, else one would lose a whole one.
        self.assertEqual(whole(((2,), ((1, 1), (1, 1)), ((3,), (4,)))), (((1,), (1,)), (None, None)))
        # Of three pieces buyer 0 has paid just two.
        self.assertEqual(whole(((3,), ((2, 3), (1, 3)), ((1,), (100,)))), (((2,), (1,)), (None, None)))
        self.assertEqual(whole(((60, 7), ((9, 1),), ((4, 0),))), (((60, 0),), (None,)))

    def test_what_two_buyers_lose(self):
        # Five pieces for three buyers: nobody may lose a whole one, so each gets one at least, and two at most lose.
        dealing, lost = self.check(((5,), ((1, 1),) * 3, ((2,),) * 3))
        self.assertTrue(all(row[0] >= 1 for row in dealing))
        self.assertTrue(1 <= lost.count(0) <= 2)

    def test_unwished(self):
        for market in helper.with_wishless(65, 60) + [((1,), ((1, 1),), ((0,),))]:
            with self.assertRaises(MartError) as caught:
                whole(market)
            self.assertIs(type(caught.exception), Unwished)

    def test_the_same_again(self):
        for market, other in zip(MARKETS[:60], MARKETS[60:120]):
            before = repr(market)
            told = whole(market)
            whole(other)
            self.assertEqual(whole(market), told)
            self.assertEqual(repr(market), before)


if __name__ == "__main__":
    unittest.main()
