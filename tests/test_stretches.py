"""Promise 17: stretches; and promises 2 and 3 as far as they speak of them."""

import itertools
import random
import unittest
from fractions import Fraction

import helper
from helper import (LARGEST, MILLION, meeting, money, pair, pairs, purses_of, raised, subsets, takers_of, value,
                    wished_goods, with_part)
from wishmart.clearing import clear
from wishmart.errors import MartError, NoBuyer, Unwished
from wishmart.stretches import stretch

# Two buyers with the purses 3 and 5, each wishing one good of its own alone; good 2 is free.
APART = ((1, 2, 9), ((3, 1), (5, 1)), ((1, 0, 0), (0, 1, 0)))


def still_by_words(market, prices, buyer):
    """The greatest set of goods that is paid up without the buyer among its takers."""
    paid = []
    for some in subsets(wished_goods(market)):
        mine = takers_of(market, prices, some)
        if buyer not in mine and money(market, prices, some) == purses_of(market, mine):
            paid.append(some)
    greatest = max(paid, key=len)
    assert all(set(some) <= set(greatest) for some in paid), (market, buyer)
    return greatest


def paying(market, prices, buyer, still, rising):
    """For each set of goods that rise, not the buyer's, the factor at which those that take none of the others pay."""
    bound = takers_of(market, prices, still)
    for some in subsets(rising):
        mine = takers_of(market, prices, some)
        if some and buyer not in mine:
            yield purses_of(market, [each for each in mine if each not in bound]) / money(market, prices, some)


def stretch_by_words(market, buyer):
    prices = clear(market)[0]
    still = still_by_words(market, prices, buyer)
    rising = tuple(good for good in wished_goods(market) if good not in still)
    factors = [*paying(market, prices, buyer, still, rising), *meeting(market, prices, still, rising)]
    factors = [factor for factor in factors if factor > 1]
    if not factors:
        return ("rise", rising, None)
    return ("rise", rising, pair(value(market[1][buyer]) + (min(factors) - 1) * money(market, prices, rising)))


def richer(market, buyer, purse):
    return with_part(market, (1, buyer), pair(purse))


def prices_by_stretch(market, buyer, told, purse):
    """The prices that a stretch tells for a purse within it."""
    prices = clear(market)[0]
    grown = purse - value(market[1][buyer])
    return raised(prices, told[1], 1 + grown / money(market, prices, told[1]))


def small_markets():
    for rows in itertools.product(itertools.product([0, 1, 3], repeat=2), repeat=2):
        if all(any(row) for row in rows):
            for purses in [(1, 1), (2, 5), (9, 1)]:
                yield ((1, 2), pairs(purses), rows)
    for rows in itertools.product([(1, 0, 0), (1, 1, 0), (2, 0, 1), (0, 2, 1)], repeat=3):
        yield ((1, 1, 2), pairs([1, 2, 2]), rows)


MIXED = helper.some_markets(51, 120, 4, 4) + helper.alike_markets(52, 10) + helper.some_markets(53, 12, least=5)


class StretchTest(unittest.TestCase):
    def check(self, market):
        for buyer in range(len(market[1])):
            told = stretch(market, buyer)
            self.assertEqual(told, stretch_by_words(market, buyer), (market, buyer))
            self.assertIs(type(told), tuple)
            self.assertTrue(helper.is_rising(told[1]))
            if told[2] is not None:
                self.assertTrue(helper.is_lowest(told[2]))
                self.assertGreater(value(told[2]), value(market[1][buyer]))
            yield told

    def test_small_markets_against_all_sets_and_all_pairs(self):
        seen = {True: 0, False: 0}
        for market in small_markets():
            for told in self.check(market):
                seen[told[2] is None] += 1
        self.assertGreater(min(seen.values()), 50, seen)

    def test_mixed_markets_against_all_sets_and_all_pairs(self):
        seen = {True: 0, False: 0}
        for market in MIXED + helper.GREAT:
            for told in self.check(market):
                seen[told[2] is None] += 1
        self.assertGreater(min(seen.values()), 50, seen)

    def test_told_as_written_out(self):
        for market, buyer, told in [
            (APART, 0, ("rise", (0,), None)), (APART, 1, ("rise", (1,), None)),
            (((4,), ((3, 1), (5, 1)), ((1,), (7,))), 1, ("rise", (0,), None)),
            # Goods 0 and 1 go together till good 0 has come to all that buyer 0 has.
            (((1, 1), ((4, 1), (2, 1)), ((1, 1), (0, 1))), 1, ("rise", (0, 1), (4, 1))),
            # Then good 1 goes alone, and good 0 is never again met, for buyer 1 does not wish it.
            (((1, 1), ((4, 1), (4, 1)), ((1, 1), (0, 1))), 1, ("rise", (1,), None)),
            # Good 1 goes alone till buyer 1 would rather have good 0, too, at a third of its price.
            (((1, 1), ((1, 1), (2, 1)), ((1, 0), (1, 3))), 1, ("rise", (1,), (3, 1))),
            (((1, 1), ((1, 1), (3, 1)), ((1, 0), (1, 3))), 1, ("rise", (0, 1), None)),
            # The richer buyer 0 is, the more good 0 alone, till it is best beside good 1 for it.
            (((1, 1), ((1, 1), (2, 1)), ((2, 1), (0, 1))), 0, ("rise", (0,), (4, 1))),
            # Any growth of a purse lifts all goods, where each is shared.
            (((2, 2), ((2, 1), (2, 1)), ((1, 1), (1, 1))), 0, ("rise", (0, 1), None)),
            # A purse beyond those that a market has.
            (((1, 1), ((1, 1), (MILLION, 1)), ((100, 1), (0, 1))), 0, ("rise", (0,), (100 * MILLION, 1))),
        ]:
            with self.subTest(market=market, buyer=buyer):
                self.assertEqual(stretch(market, buyer), told)

    def test_goods_of_buyers_that_also_take_others_stay(self):
        # Buyer 1 spends all on good 1, though good 0 is as good for it; it goes on so while good 0 rises.
        market = ((1, 1), ((1, 1), (1, 1)), ((1, 0), (1, 1)))
        self.assertEqual(stretch(market, 0), ("rise", (0,), None))
        # Where its own purse grows both rise, and buyer 0 gets less and less.
        self.assertEqual(stretch(market, 1), ("rise", (0, 1), None))


class PricesTest(unittest.TestCase):
    def within(self, market, buyer, told):
        """Some purses from the one that is to the end of the stretch."""
        first = value(market[1][buyer])
        last = first * 1000 if told[2] is None else value(told[2])
        return [first, last] + [first + (last - first) * part for part in
                                [Fraction(1, 10 ** 6), Fraction(1, 3), Fraction(1, 2), Fraction(10 ** 6 - 1, 10 ** 6)]]

    def test_within_the_stretch_and_at_its_end(self):
        for market in list(small_markets())[::3] + MIXED[::2]:
            for buyer in range(len(market[1])):
                told = stretch(market, buyer)
                for purse in self.within(market, buyer, told):
                    self.assertEqual(clear(richer(market, buyer, purse))[0],
                                     prices_by_stretch(market, buyer, told, purse), (market, buyer, purse))

    def test_beyond_its_end(self):
        ended = 0
        for market in list(small_markets())[::3] + MIXED[::2]:
            for buyer in range(len(market[1])):
                told = stretch(market, buyer)
                if told[2] is not None:
                    end = richer(market, buyer, value(told[2]))
                    behind = stretch(end, buyer)
                    self.assertNotEqual(behind[1], told[1])
                    for factor in [Fraction(10 ** 6 + 1, 10 ** 6), Fraction(11, 10)]:
                        purse = value(told[2]) * factor
                        prices = clear(richer(market, buyer, purse))[0]
                        self.assertNotEqual(prices, prices_by_stretch(market, buyer, told, purse))
                        if behind[2] is None or purse <= value(behind[2]):
                            self.assertEqual(prices, prices_by_stretch(end, buyer, behind, purse))
                    ended += 1
        self.assertGreater(ended, 100)

    def test_within_a_stretch_the_same_stretch_goes_on(self):
        for market in MIXED[::3]:
            for buyer in range(len(market[1])):
                told = stretch(market, buyer)
                for purse in self.within(market, buyer, told)[2:]:
                    self.assertEqual(stretch(richer(market, buyer, purse), buyer), told)

    def test_stretch_behind_stretch(self):
        chance = random.Random(54)
        most = 0
        for market in helper.some_markets(55, 25, least=2) + helper.some_markets(56, 8, least=6):
            buyer = chance.randrange(len(market[1]))
            market = richer(market, buyer, Fraction(1, MILLION))
            many, told = 1, stretch(market, buyer)
            while told[2] is not None and value(told[2]) <= MILLION:
                prices = prices_by_stretch(market, buyer, told, value(told[2]))
                behind = richer(market, buyer, value(told[2]))
                self.assertEqual(clear(behind)[0], prices)
                self.assertTrue(all(value(one) <= value(other) for one, other in zip(clear(market)[0], prices)))
                market, many = behind, many + 1
                told = stretch(market, buyer)
                self.assertLess(many, 200)
            last = richer(market, buyer, Fraction(MILLION))
            self.assertEqual(clear(last)[0], prices_by_stretch(market, buyer, told, Fraction(MILLION)))
            most = max(most, many)
        self.assertGreater(most, 5)


class RefusedTest(unittest.TestCase):
    def assert_refused(self, error, market, buyer):
        with self.assertRaises(MartError) as caught:
            stretch(market, buyer)
        self.assertIs(type(caught.exception), error)

    def far(self, market):
        many = len(market[1])
        return [number for number in [-1, many, many + 1, -many, 6, 7, MILLION, -MILLION, LARGEST, -LARGEST]
                if number not in range(many)]

    def test_no_buyer(self):
        for market in MIXED[:20] + [APART]:
            for number in self.far(market):
                self.assert_refused(NoBuyer, market, number)

    def test_unwished(self):
        for market in helper.with_wishless(57, 40):
            for number in range(len(market[1])):
                self.assert_refused(Unwished, market, number)

    def test_no_buyer_goes_ahead_of_unwished(self):
        for market in helper.with_wishless(58, 40):
            for number in self.far(market):
                self.assert_refused(NoBuyer, market, number)

    def test_the_same_again(self):
        for market, other in zip(MIXED[:40], MIXED[40:80]):
            before = repr(market)
            told = [stretch(market, buyer) for buyer in range(len(market[1]))]
            stretch(other, 0)
            self.assertRaises(NoBuyer, stretch, market, 6)
            self.assertEqual([stretch(market, buyer) for buyer in range(len(market[1]))], told)
            self.assertEqual(repr(market), before)


if __name__ == "__main__":
    unittest.main()
