"""Promises 5 and 6: markets; and promise 2 as far as it speaks of them."""

import copy
import itertools
import unittest

from helper import LARGEST, MILLION, deep_nest, part_at, places, with_part
from wishmart.markets import is_market, wished, wishless

ONE = ((1,), ((1, 1),), ((0,),))
THREE = ((1, 60, 7), ((1, 1), (MILLION, 1)), ((0, 100, 3), (1, 0, 2)))
SIX = (
    (1, 60, 2, 59, 30, 1),
    ((1, 1), (MILLION, 1), (1, MILLION), (MILLION, MILLION - 1), (MILLION - 1, MILLION), (2, 3)),
    tuple(tuple((row * 7 + good * 13) % 101 for good in range(6)) for row in range(6)),
)
MARKETS = [ONE, THREE, SIX]

# Nowhere in a market of more than one good and buyer does one of these fit.
NOWHERE = [True, False, None, "", "1", "ab", "abc", "amounts", -1, LARGEST, -LARGEST,
           [], [1], [1, 1], [[1], [[1, 1]], [[0]]], [()], (), (None,), (True,), ("",), ((),), ([],), ((((1,),),),)]


def market_of(goods, buyers):
    return ((1,) * goods, ((1, 1),) * buyers, ((1,) * goods,) * buyers)


class MarketCase(unittest.TestCase):
    def assert_market(self, thing):
        self.assertIs(is_market(thing), True, thing)

    def assert_none(self, thing):
        self.assertIs(is_market(thing), False, thing)


class IsMarketTest(MarketCase):
    def test_markets(self):
        for market in MARKETS:
            self.assert_market(market)

    def test_all_numbers_of_goods_and_buyers(self):
        for goods, buyers in itertools.product(range(9), repeat=2):
            fits = 1 <= goods <= 6 and 1 <= buyers <= 6
            self.assertIs(is_market(market_of(goods, buyers)), fits, (goods, buyers))

    def test_amounts_at_and_beyond_their_bounds(self):
        for market in MARKETS:
            for good in range(len(market[0])):
                for number in [1, 2, 59, 60]:
                    self.assert_market(with_part(market, (0, good), number))
                for number in [0, 61, -1, -60, LARGEST]:
                    self.assert_none(with_part(market, (0, good), number))

    def test_purses_at_and_beyond_their_bounds(self):
        right = [(1, 1), (1, 2), (2, 1), (MILLION, 1), (1, MILLION), (MILLION, MILLION - 1), (MILLION - 1, MILLION)]
        wrong = [(0, 1), (-1, 1), (-1, MILLION), (1, -1), (-1, -1), (0, 0), (1, 0), (0, 2), (0, -1),
                 (MILLION + 1, 1), (1, MILLION + 1), (MILLION + 1, MILLION), (MILLION, MILLION + 1),
                 (LARGEST, 1), (1, LARGEST), (2, 2), (2, 4), (MILLION, MILLION), (MILLION, 2), (6, 3),
                 (1,), (1, 1, 1), 1, MILLION]
        for market in MARKETS:
            for buyer in range(len(market[1])):
                for purse in right:
                    self.assert_market(with_part(market, (1, buyer), purse))
                for purse in wrong:
                    self.assert_none(with_part(market, (1, buyer), purse))

    def test_wishes_at_and_beyond_their_bounds(self):
        for market in MARKETS:
            for buyer, good in itertools.product(range(len(market[1])), range(len(market[0]))):
                for number in [0, 1, 99, 100]:
                    self.assert_market(with_part(market, (2, buyer, good), number))
                for number in [-1, 101, -100, LARGEST]:
                    self.assert_none(with_part(market, (2, buyer, good), number))

    def test_rows_too_many_too_few_too_long_too_short(self):
        for market in MARKETS:
            amounts, purses, wishes = market
            self.assert_none((amounts, purses, wishes + wishes[:1]))
            self.assert_none((amounts, purses, wishes[:-1]))
            self.assert_none((amounts, purses, ()))
            self.assert_none((amounts + (1,), purses, wishes))
            self.assert_none((amounts, purses + ((1, 1),), wishes))
            for buyer, row in enumerate(wishes):
                for other in [row + (0,), row[:-1], (), row + row]:
                    self.assert_none(with_part(market, (2, buyer), other))

    def test_truths_in_the_place_of_numbers(self):
        for market in MARKETS:
            for path in places(market):
                for truth in [True, False]:
                    self.assert_none(with_part(market, path, truth))
        for purse in [(True, 1), (1, True), (True, True), (True, 2), (2, True), (False, 1), (1, False)]:
            self.assert_none(((1,), (purse,), ((1,),)))

    def test_lists_in_the_place_of_tuples(self):
        for market in MARKETS:
            for path in places(market):
                part = part_at(market, path)
                if isinstance(part, tuple):
                    self.assert_none(with_part(market, path, list(part)))
        self.assert_none([[1], [[1, 1]], [[0]]])

    def test_parts_left_out_and_parts_too_many(self):
        for market in MARKETS:
            for path in places(market):
                part = part_at(market, path)
                if isinstance(part, tuple):
                    for at in range(len(part)):
                        self.assert_none(with_part(market, path, part[:at] + part[at + 1:]))
                    self.assert_none(with_part(market, path, ()))
                    self.assert_none(with_part(market, path, part + part[-1:]))
                    self.assert_none(with_part(market, path, part + (None,)))

    def test_parts_in_another_order(self):
        for market in [THREE, SIX]:
            for order in itertools.permutations(range(3)):
                if order != (0, 1, 2):
                    self.assert_none(tuple(market[at] for at in order))

    def test_anything_in_each_place(self):
        for market in [THREE, SIX]:
            for path in places(market):
                for thing in NOWHERE:
                    self.assert_none(with_part(market, path, thing))
                if path:
                    self.assert_none(with_part(market, path, market))

    def test_anything_in_the_place_of_a_market(self):
        for thing in NOWHERE + [0, 1, 3, LARGEST, (1, 2, 3), ((1,), (1,), (1,)), ("a", "b", "c"), (None, None, None)]:
            self.assert_none(thing)
        for parts in itertools.product([0, "a", None, True, [], (), (1,), ((1, 1),), ((0,),)], repeat=3):
            self.assertIs(is_market(parts), parts == ONE, parts)

    def test_a_deep_nest(self):
        deep = deep_nest()
        self.assert_none(deep)
        for path in places(THREE):
            self.assert_none(with_part(THREE, path, deep))


class WishedTest(unittest.TestCase):
    CASES = [
        (((5,),), (0,)), (((0,),), ()), (((0, 0, 0), (0, 0, 0)), ()),
        (((1, 0, 0), (0, 0, 100)), (0, 2)), (((0, 1, 0), (0, 1, 0)), (1,)), (((1, 2, 3),), (0, 1, 2)),
        (((0, 0), (0, 0), (0, 1)), (1,)), (((0, 0, 0, 0, 0, 1), (1, 0, 1, 0, 1, 0)), (0, 2, 4, 5)),
        (((0, 0, 0, 3, 0, 0), (0, 0, 2, 0, 0, 0), (1, 0, 0, 0, 0, 0)), (0, 2, 3)),
    ]

    def test_told_as_written_out(self):
        for wishes, goods in self.CASES:
            with self.subTest(wishes=wishes):
                market = ((3,) * len(wishes[0]), ((2, 3),) * len(wishes), wishes)
                told = wished(market)
                self.assertIs(type(told), tuple)
                self.assertEqual(told, goods)
                self.assertTrue(all(type(good) is int for good in told))

    def test_all_small_markets(self):
        for rows in itertools.product(itertools.product((0, 1, 100), repeat=3), repeat=2):
            market = ((1, 2, 3), ((1, 2), (5, 1)), rows)
            self.assertEqual(wished(market), tuple(good for good in range(3) if rows[0][good] or rows[1][good]))


class WishlessTest(unittest.TestCase):
    def told(self, wishes):
        return wishless(((3,) * len(wishes[0]), ((2, 3),) * len(wishes), wishes))

    def test_none(self):
        for wishes in [((1,),), ((0, 1), (100, 0)), ((0, 0, 1),) * 6, ((1, 0), (1, 0))]:
            self.assertIs(self.told(wishes), None)

    def test_one(self):
        for size in range(1, 7):
            for buyer in range(size):
                wishes = tuple((0, 0) if row == buyer else (0, 1) for row in range(size))
                told = self.told(wishes)
                self.assertEqual(told, buyer)
                self.assertIs(type(told), int)

    def test_buyer_0_is_told_as_0(self):
        told = self.told(((0,),))
        self.assertIs(type(told), int)
        self.assertEqual(told, 0)

    def test_several(self):
        self.assertEqual(self.told(((1, 0), (0, 0), (0, 1), (0, 0))), 1)
        self.assertEqual(self.told(((0, 0), (0, 0))), 0)
        self.assertEqual(self.told(((1,), (1,), (1,), (1,), (0,), (0,))), 4)


class HandedInTest(unittest.TestCase):
    """Promise 2: what is handed in stays as it was; the same again is answered the same."""

    def test_things(self):
        things = MARKETS + NOWHERE + [
            [[1], [[1, 1]], [[0]]], ([1], ((1, 1),), ((0,),)), ((1,), [(1, 1)], ((0,),)), ((1,), ([1, 1],), ((0,),)),
            ((1,), ((1, 1),), [(0,)]), ((1,), ((1, 1),), ([0],)), ((1,), ([2, 4],), ((0,),)), [3, [2, [1]]]]
        for thing in things:
            before = copy.deepcopy(thing)
            told = is_market(thing)
            # By their texts, for True and 1 are alike to Python.
            self.assertEqual(repr(thing), repr(before))
            self.assertIs(is_market(thing), told)

    def test_markets(self):
        for market in MARKETS:
            before = repr(market)
            for function in [wished, wishless]:
                self.assertEqual(function(market), function(market))
            self.assertEqual(repr(market), before)


if __name__ == "__main__":
    unittest.main()
