"""Promises 13 and 14: the prices that clear, dealings that show them, worths; and what promise 2 says of them."""

import copy
import itertools
import random
import unittest
from fractions import Fraction

import helper
from helper import GREAT, LARGEST, best, pair, pairs, scaled, value, wished_goods, with_part
from wishmart.clearing import clear, shows, worths
from wishmart.errors import NoPrices, Unwished
from wishmart.prices import are_prices
from wishmart.rises import first_prices, rises

MARKETS = helper.some_markets(1, 150) + helper.some_markets(2, 60, least=6)


def two_goods(market):
    """The prices that clear in a market of two wished goods, found where the money for good 0 fits."""
    (one, other), purses, wishes = market
    purses = [value(purse) for purse in purses]
    whole = sum(purses)
    # How the price of a piece of good 0 is to that of good 1: at some buyer's own proportion, or between two.
    found = []
    for row in wishes:
        if row[0] and row[1]:
            ratio = Fraction(row[0], row[1])
            part = whole * ratio * one / (ratio * one + other)
            most = sum(purse for purse, wish in zip(purses, wishes) if wish[0] >= ratio * wish[1])
            least = sum(purse for purse, wish in zip(purses, wishes) if wish[0] > ratio * wish[1])
            if least <= part <= most:
                found.append(part)
    for some in helper.subsets(range(len(purses))):
        part = sum((purses[buyer] for buyer in some), Fraction(0))
        if 0 < part < whole:
            ratio = (part / one) / ((whole - part) / other)
            if all((wish[0] > ratio * wish[1]) if buyer in some else (wish[0] < ratio * wish[1])
                   for buyer, wish in enumerate(wishes)):
                found.append(part)
    assert len(set(found)) == 1, (market, found)
    return pairs([found[0] / one, (whole - found[0]) / other])


class ClearTest(unittest.TestCase):
    def walk(self, market):
        """Go through what is told by the words of promise 13."""
        told = clear(market)
        self.assertIs(type(told), tuple)
        self.assertEqual(len(told), 2)
        prices, dealing = told
        self.assertTrue(are_prices(market, prices), prices)
        self.assertIs(type(dealing), tuple)
        self.assertEqual(len(dealing), len(market[1]))
        for row in dealing:
            self.assertIs(type(row), tuple)
            self.assertEqual(len(row), len(market[0]))
            self.assertTrue(all(helper.is_lowest(part) and part[0] >= 0 for part in row), row)
        self.assertTrue(helper.dealing_shows(market, prices, dealing), (market, told))
        self.assertIs(shows(market, prices, dealing), True)
        self.assertEqual(clear(market), told)

    def test_small_markets(self):
        for rows in itertools.product(itertools.product([0, 1, 3], repeat=2), repeat=2):
            if all(any(row) for row in rows):
                for purses in [(1, 1), (2, 5)]:
                    self.walk(((1, 2), pairs(purses), rows))

    def test_many_markets(self):
        for market in MARKETS:
            self.walk(market)

    def test_great_markets(self):
        for market in GREAT:
            self.walk(market)

    def test_the_rises_end_at_them(self):
        for market in MARKETS[::4]:
            first = first_prices(market)
            behind = [first] + [step[2] for step in rises(market, first)]
            self.assertEqual(clear(market)[0], behind[-1])

    def test_from_other_prices_that_can_be_paid_the_rises_end_at_the_same(self):
        chance = random.Random(3)
        for market in helper.some_markets(3, 80, 5, 5):
            told = rises(market, helper.payable_prices(market, chance))
            if told:
                self.assertEqual(told[-1][2], clear(market)[0])

    def test_one_buyer(self):
        # All goods it wishes are alike good for it: prices go as wishes.
        for market in helper.some_markets(4, 60, 6, 1):
            amounts, (purse,), (row,) = market
            worth = sum(amount * wish for amount, wish in zip(amounts, row))
            prices, dealing = clear(market)
            self.assertEqual(prices, pairs(value(purse) * wish / worth for wish in row))
            self.assertEqual(dealing, (pairs(amount if wish else 0 for amount, wish in zip(amounts, row)),))
            self.assertEqual(worths(market), ((worth, 1),))

    def test_one_good(self):
        for market in helper.some_markets(5, 60, 1, 6):
            (amount,), purses, wishes = market
            whole = sum(value(purse) for purse in purses)
            prices, dealing = clear(market)
            self.assertEqual(prices, (pair(whole / amount),))
            self.assertEqual(dealing, tuple((pair(value(purse) * amount / whole),) for purse in purses))

    def test_two_goods(self):
        for market in helper.some_markets(6, 400, 2, 6):
            if len(wished_goods(market)) == 2:
                self.assertEqual(clear(market)[0], two_goods(market), market)

    def test_told_as_written_out(self):
        for market, prices, dealing in [
            # Each buyer has a good of its own; good 2 is free.
            (((1, 2, 9), ((3, 1), (5, 1)), ((1, 0, 0), (0, 1, 0))), ((3, 1), (5, 2), (0, 1)),
             (((1, 1), (0, 1), (0, 1)), ((0, 1), (2, 1), (0, 1)))),
            # Both would rather have good 0; at twice the price buyer 0 takes some of good 1, too.
            (((1, 1), ((2, 1), (1, 1)), ((2, 1), (3, 1))), ((2, 1), (1, 1)),
             (((1, 2), (1, 1)), ((1, 2), (0, 1)))),
            # Buyer 0 would have either good, and leaves good 0 to buyer 1, that has no other one.
            (((1, 1), ((1, 1), (1, 1)), ((1, 1), (1, 0))), ((1, 1), (1, 1)),
             (((0, 1), (1, 1)), ((1, 1), (0, 1)))),
            # The rich buyer outbids the poor one for good 0 to what both goods are worth to it.
            (((1, 1), ((1, 1), (10, 1)), ((1, 0), (1, 3))), ((11, 4), (33, 4)),
             (((4, 11), (0, 1)), ((7, 11), (1, 1)))),
        ]:
            with self.subTest(market=market):
                self.assertEqual(clear(market), (prices, dealing))

    def test_unwished(self):
        for market in helper.with_wishless(7, 60) + [((1,), ((1, 1),), ((0,),))]:
            for call in [clear, worths]:
                with self.assertRaises(Unwished) as caught:
                    call(market)
                self.assertIs(type(caught.exception), Unwished)


# Two goods and two buyers at even prices, all alike good for both: several dealings show the prices.
EVEN = ((2, 2), ((2, 1), (2, 1)), ((1, 1), (1, 1)))
EVEN_PRICES = ((1, 1), (1, 1))
# Each buyer has one best good, in a market with a free good.
OWN = ((1, 1, 3), ((1, 1), (1, 1)), ((2, 1, 0), (1, 2, 0)))
OWN_PRICES = ((1, 1), (1, 1), (0, 1))
OWN_DEALING = (((1, 1), (0, 1), (0, 1)), ((0, 1), (1, 1), (0, 1)))
MIXED = ((3, 7), ((2, 3), (5, 4), (1, 6)), ((3, 5), (3, 5), (0, 8)))


class ShowsTest(unittest.TestCase):
    def samples(self):
        return [(OWN, OWN_PRICES, OWN_DEALING), (MIXED, *self.dealt_mixed())] + [
            (EVEN, EVEN_PRICES, dealing) for dealing in self.dealt_even()]

    def dealt_mixed(self):
        # Prices go as 3 to 5; all goods come to 2/3 + 5/4 + 1/6 = 25/12, and 3 * 3 + 7 * 5 = 44.
        unit = Fraction(25, 12) / 44
        # Buyer 2 takes good 1 alone; buyers 0 and 1 get of good 0 in proportion to their purses.
        last = Fraction(1, 6) / (5 * unit)
        first = 3 * Fraction(8, 23)
        part = (Fraction(2, 3) - first * 3 * unit) / (5 * unit)
        rows = [(first, part), (3 - first, 7 - part - last), (0, last)]
        return pairs([3 * unit, 5 * unit]), tuple(pairs(row) for row in rows)

    def dealt_even(self):
        for much in [Fraction(0), Fraction(1), Fraction(2), Fraction(1, 2), Fraction(LARGEST, LARGEST + 1)]:
            yield (pairs([much, 2 - much]), pairs([2 - much, much]))

    def test_dealings_built_by_hand(self):
        for market, prices, dealing in self.samples():
            self.assertIs(shows(market, prices, dealing), True, (market, prices, dealing))

    def test_one_number_put_otherwise(self):
        for market, prices, dealing in self.samples():
            for buyer, row in enumerate(dealing):
                for good, part in enumerate(row):
                    for change in [1, -1, Fraction(1, LARGEST), Fraction(-1, LARGEST), value(part), -value(part)]:
                        if change:
                            wrong = with_part(dealing, (buyer, good), pair(value(part) + change))
                            self.assertIs(shows(market, prices, wrong), False, wrong)

    def test_one_part_of_another_kind(self):
        for market, prices, dealing in self.samples():
            for path in helper.places(dealing):
                for thing in helper.ODD_THINGS + helper.NO_FRACTIONS:
                    # A lone number may be right in its place.
                    if len(path) < 3 or type(thing) is not int:
                        wrong = with_part(dealing, path, thing)
                        self.assertIs(shows(market, prices, wrong), False, wrong)
                part = helper.part_at(dealing, path)
                if isinstance(part, tuple):
                    wrong = [list(part), part[:-1], part[1:], part + part[-1:], part + (None,), (part,), ()]
                    wrong += [part + ((0, 1),), part + (((0, 1),) * len(market[0]),)]
                    for thing in wrong:
                        self.assertIs(shows(market, prices, with_part(dealing, path, thing)), False, (path, thing))

    def test_truths(self):
        for row in [((True, 1), (0, 1), (0, 1)), ((1, True), (0, 1), (0, 1)), ((1, 1), (False, 1), (0, 1)),
                    ((1, 1), (0, True), (0, 1)), ((1, 1), (0, 1), (False, True))]:
            self.assertEqual((row,) + OWN_DEALING[1:], OWN_DEALING)
            self.assertIs(shows(OWN, OWN_PRICES, (row,) + OWN_DEALING[1:]), False)

    def test_not_in_lowest_terms(self):
        for path, part in [((0, 0), (2, 2)), ((0, 1), (0, 2)), ((1, 1), (-1, -1)), ((1, 0), (0, -1))]:
            self.assertIs(shows(OWN, OWN_PRICES, with_part(OWN_DEALING, path, part)), False)

    def test_less_than_nothing(self):
        # All sums are right, but that somebody gets less than nothing.
        self.assertIs(shows(EVEN, EVEN_PRICES, (((3, 1), (-1, 1)), ((-1, 1), (3, 1)))), False)

    def test_goods_that_are_not_best(self):
        self.assertIs(shows(OWN, OWN_PRICES, OWN_DEALING[::-1]), False)
        half = ((1, 2), (1, 2), (0, 1))
        self.assertIs(shows(OWN, OWN_PRICES, (half, half)), False)

    def test_free_goods(self):
        for much in [(1, 1), (3, 1), (1, LARGEST)]:
            for buyer in range(2):
                self.assertIs(shows(OWN, OWN_PRICES, with_part(OWN_DEALING, (buyer, 2), much)), False)

    def test_purses_not_spent_or_overspent(self):
        market, prices = ((2,), ((1, 1), (1, 1)), ((1,), (1,))), ((1, 1),)
        self.assertIs(shows(market, prices, (((1, 1),), ((1, 1),))), True)
        for one, other in [((3, 2), (1, 2)), ((2, 1), (0, 1)), ((0, 1), (2, 1))]:
            self.assertIs(shows(market, prices, ((one,), (other,))), False)
        # All is sold, but the purses hold more, or less, than that.
        for purses in [((1, 1), (2, 1)), ((1, 1), (1, 2)), ((2, 1), (2, 1))]:
            self.assertIs(shows((market[0], purses, market[2]), prices, (((1, 1),), ((1, 1),))), False)

    def test_goods_left_over(self):
        # All purses are spent, but there are more pieces, or fewer, than are got.
        for amount in [1, 3]:
            self.assertIs(shows(((amount,), ((1, 1), (1, 1)), ((1,), (1,))), ((1, 1),), (((1, 1),), ((1, 1),))), False)
            free = ((amount, 1), ((1, 1), (1, 1)), ((1, 0), (1, 0)))
            self.assertIs(shows(free, ((1, 1), (0, 1)), (((1, 1), (0, 1)), ((1, 1), (0, 1)))), False)
        # Of good 0 just what there is, of good 1 more, of good 2 less.
        row = ((1, 1), (3, 2), (1, 2))
        self.assertIs(shows(((2, 2, 2), ((3, 1), (3, 1)), ((1, 1, 1),) * 2), ((1, 1),) * 3, (row, row)), False)

    def test_a_buyer_that_wishes_nothing(self):
        market = ((1, 1), ((1, 1), (1, 1)), ((1, 0), (0, 0)))
        for row in [((0, 1), (0, 1)), ((0, 1), (1, 1)), ((1, 1), (0, 1))]:
            self.assertIs(shows(market, ((1, 1), (0, 1)), (((1, 1), (0, 1)), row)), False)

    def test_prices_that_do_not_clear(self):
        for market, prices, dealing in self.samples():
            for factor in [2, Fraction(1, 2), 1 + Fraction(1, LARGEST)]:
                self.assertIs(shows(market, scaled(prices, factor), dealing), False)
        for market in MARKETS[:100]:
            prices, dealing = clear(market)
            for good in wished_goods(market):
                other = with_part(prices, (good,), pair(value(prices[good]) * Fraction(10 ** 9, 10 ** 9 + 1)))
                self.assertIs(shows(market, other, dealing), False)

    def test_parts_moved_in_many_markets(self):
        # What two buyers have exchanged shows the prices where the words say so, and only there.
        seen = {True: 0, False: 0}
        chance = random.Random(8)
        for market in MARKETS[:100] + helper.alike_markets(8, 50):
            prices, dealing = clear(market)
            for _ in range(6):
                moved = helper.exchanged(market, prices, dealing, chance)
                right = all(part[0] >= 0 for row in moved for part in row)
                right = right and helper.dealing_shows(market, prices, moved)
                self.assertIs(shows(market, prices, moved), right)
                if moved != dealing:
                    seen[right] += 1
        self.assertGreater(min(seen.values()), 20, seen)

    def test_a_deep_nest(self):
        deep = helper.deep_nest()
        for path in helper.places(OWN_DEALING):
            self.assertIs(shows(OWN, OWN_PRICES, with_part(OWN_DEALING, path, deep)), False)

    def test_no_prices(self):
        for thing in helper.wrong_prices(OWN, OWN_PRICES):
            before = repr(thing)
            for dealing in [OWN_DEALING, None, (), [1]]:
                with self.assertRaises(NoPrices):
                    shows(OWN, thing, dealing)
            self.assertEqual(repr(thing), before)

    def test_things_stay_as_they_were(self):
        for thing in [OWN_DEALING, [list(row) for row in OWN_DEALING], (list(OWN_DEALING[0]), OWN_DEALING[1]),
                      *helper.ODD_THINGS]:
            before = copy.deepcopy(thing)
            told = shows(OWN, OWN_PRICES, thing)
            self.assertEqual(repr(thing), repr(before))
            self.assertIs(shows(OWN, OWN_PRICES, thing), told)


class WorthsTest(unittest.TestCase):
    def test_told_as_written_out(self):
        for market, told in [
            (OWN, ((2, 1), (2, 1))), (EVEN, ((2, 1), (2, 1))),
            (((1, 1), ((2, 1), (1, 1)), ((2, 1), (3, 1))), ((2, 1), (3, 2))),
            (((1, 1), ((1, 1), (10, 1)), ((1, 0), (1, 3))), ((4, 11), (40, 11))),
            (((60,), ((1, 3), (2, 3)), ((100,), (1,))), ((2000, 1), (40, 1))),
        ]:
            self.assertEqual(worths(market), told)

    def test_those_of_the_told_dealing(self):
        for market in MARKETS + GREAT:
            prices, dealing = clear(market)
            told = worths(market)
            self.assertIs(type(told), tuple)
            self.assertTrue(all(helper.is_lowest(worth) for worth in told))
            self.assertEqual(told, pairs(sum(wish * value(part) for wish, part in zip(wishes, row))
                                         for wishes, row in zip(market[2], dealing)))
            self.assertEqual(worths(market), told)

    def test_what_the_purse_buys_of_a_best_good(self):
        for market in MARKETS:
            prices = clear(market)[0]
            for buyer, (worth, mine) in enumerate(zip(worths(market), best(market, prices))):
                for good in mine:
                    much = value(market[1][buyer]) / value(prices[good])
                    self.assertEqual(value(worth), much * market[2][buyer][good])


if __name__ == "__main__":
    unittest.main()
