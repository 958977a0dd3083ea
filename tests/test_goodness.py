"""Promises 19 and 20: who would rather have what another one gets, and gains; and what promises 2 and 3 say of them."""

import copy
import random
import unittest
from fractions import Fraction

import helper
from helper import LARGEST, MILLION, pair, value, with_part, worth
from wishmart.clearing import clear
from wishmart.errors import MartError, NoDealing, NoNumber
from wishmart.goodness import gain, rather
from wishmart.pieces import whole

MARKETS = helper.some_markets(91, 100) + helper.some_markets(92, 20, least=6)
LOST = helper.with_wishless(93, 60)

# Buyer 0 has twice the money of buyer 1.
TWO = ((4, 2), ((2, 1), (1, 1)), ((1, 1), (3, 0)))
# Everything is got, and each good by both.
PARTED = (((3, 1), (1, 1)), ((1, 1), (1, 1)))


def rather_by_words(market, dealing):
    told = []
    for buyer, row in enumerate(market[2]):
        for other, got in enumerate(dealing):
            own = worth(row, dealing[buyer]) / value(market[1][buyer])
            if worth(row, got) / value(market[1][other]) > own:
                told.append((buyer, other))
    return told


def gain_by_words(market, dealing, other):
    return pair(sum(value(purse) * worth(row, one) / worth(row, two) - value(purse)
                    for purse, row, one, two in zip(market[1], market[2], dealing, other)))


def worth_something(market, dealing):
    return all(worth(row, got) > 0 for row, got in zip(market[2], dealing))


class RefusedCase(unittest.TestCase):
    def assert_refused(self, error, call, *handed_in):
        before = repr(handed_in)
        with self.assertRaises(MartError) as caught:
            call(*handed_in)
        self.assertIs(type(caught.exception), error, handed_in)
        self.assertEqual(repr(handed_in), before)


class RatherTest(RefusedCase):
    def test_told_as_written_out(self):
        none = ((0, 1), (0, 1))
        for dealing, told in [
            # Buyer 0 has 4 for 2 and would have 2 for 1; buyer 1 has 3 for 1 and would have 9 for 2.
            (PARTED, [(1, 0)]),
            ((none, none), []),
            # Buyer 0 has nothing; to buyer 1 nothing is worth nothing.
            ((none, ((0, 1), (1, 1))), [(0, 1)]),
            ((((1, 1), (0, 1)), none), [(1, 0)]),
            # By their purses each has as much; a little more makes the difference.
            ((((2, 1), (0, 1)), ((1, 1), (0, 1))), []),
            ((((2, 1), (0, 1)), (pair(1 + Fraction(1, LARGEST)), (0, 1))), [(0, 1)]),
            ((((2, 1), (0, 1)), (pair(1 - Fraction(1, LARGEST)), (0, 1))), [(1, 0)]),
            # Each would rather have what the other one has.
            ((((3, 1), (0, 1)), ((0, 1), (2, 1))), [(0, 1), (1, 0)]),
        ]:
            with self.subTest(dealing=dealing):
                self.assertEqual(rather(TWO, dealing), told)

    def test_against_all_pairs(self):
        chance = random.Random(94)
        seen = {0: 0, 1: 0, 2: 0}
        for market in MARKETS + LOST:
            for _ in range(3):
                dealing = helper.any_dealing(market, chance)
                told = rather(market, dealing)
                self.assertEqual(told, rather_by_words(market, dealing), (market, dealing))
                self.assertIs(type(told), list)
                self.assertEqual(told, sorted(told))
                self.assertTrue(all(type(each) is tuple for each in told))
                seen[min(2, len(told))] += 1
        self.assertGreater(min(seen.values()), 30, seen)

    def test_nothing_dealt(self):
        for market in MARKETS + LOST:
            self.assertEqual(rather(market, (((0, 1),) * len(market[0]),) * len(market[1])), [])

    def test_free_goods_may_be_dealt(self):
        market = ((1, 5), ((1, 1), (1, 1)), ((1, 0), (1, 0)))
        self.assertEqual(rather(market, (((1, 2), (5, 1)), ((1, 2), (0, 1)))), [])
        self.assert_refused(NoDealing, rather, market, (((1, 2), (5, 1)), ((1, 2), (1, 1))))

    def test_none_for_the_told_dealing(self):
        for market in MARKETS + helper.GREAT + helper.alike_markets(95, 20):
            self.assertEqual(rather(market, clear(market)[1]), [])

    def test_a_new_list_each_time(self):
        dealing = (((3, 1), (0, 1)), ((0, 1), (2, 1)))
        told = rather(TWO, dealing)
        self.assertIsNot(told, rather(TWO, dealing))
        told[:] = ["other"]
        self.assertEqual(rather(TWO, dealing), [(0, 1), (1, 0)])

    def test_no_dealing(self):
        chance = random.Random(96)
        for market in [TWO] + helper.some_markets(96, 3, 3, 3, 2) + [((1, 2), ((1, 1), (1, 1)), ((0, 0), (1, 0)))]:
            for thing in helper.wrong_dealings(market, helper.any_dealing(market, chance)):
                self.assert_refused(NoDealing, rather, market, thing)

    def test_no_dealing_of_one_good_and_one_buyer(self):
        market = ((2,), ((1, 1),), ((1,),))
        for right in [(0, 1), (1, 1), (2, 1), (1, LARGEST), (2 * LARGEST - 1, LARGEST)]:
            self.assertEqual(rather(market, ((right,),)), [])
        for wrong in helper.NO_FRACTIONS + [(3, 1), (-1, 1), (2 * LARGEST + 1, LARGEST), (MILLION, 1)]:
            self.assert_refused(NoDealing, rather, market, ((wrong,),))

    def test_a_deep_nest(self):
        deep = helper.deep_nest()
        for path in helper.places(PARTED):
            wrong = with_part(PARTED, path, deep)
            self.assertRaises(NoDealing, rather, TWO, wrong)
            self.assertRaises(NoDealing, gain, TWO, wrong, PARTED)
            self.assertRaises(NoDealing, gain, TWO, PARTED, wrong)


class GainTest(RefusedCase):
    def test_told_as_written_out(self):
        one, two = (((4, 1), (2, 1)), ((0, 1), (0, 1))), (((0, 1), (0, 1)), ((4, 1), (2, 1)))
        for dealing, other, told in [
            (PARTED, PARTED, (0, 1)),
            # Buyer 0 has 6 in place of 4, buyer 1 nothing: 2 * 6/4 - 3.
            (one, PARTED, (0, 1)),
            # Buyer 1 has 12 in place of 3, buyer 0 nothing: 12/3 - 3.
            (two, PARTED, (1, 1)),
            ((((0, 1), (0, 1)),) * 2, PARTED, (-3, 1)),
            ((((2, 1), (1, 1)), ((2, 1), (1, 1))), PARTED, (1, 2)),
        ]:
            with self.subTest(dealing=dealing):
                self.assertEqual(gain(TWO, dealing, other), told)

    def test_reckoned_anew(self):
        chance = random.Random(97)
        many = 0
        for market in MARKETS:
            for _ in range(6):
                dealing, other = (helper.any_dealing(market, chance, all_dealt=True) for _ in range(2))
                if worth_something(market, other):
                    told = gain(market, dealing, other)
                    self.assertTrue(helper.is_lowest(told))
                    self.assertEqual(told, gain_by_words(market, dealing, other))
                    many += 1
                else:
                    self.assert_refused(NoNumber, gain, market, dealing, other)
        self.assertGreater(many, 100)

    def test_over_itself(self):
        for market in MARKETS:
            dealing = clear(market)[1]
            self.assertEqual(gain(market, dealing, dealing), (0, 1))

    def test_none_above_nought_over_the_told_dealing(self):
        chance = random.Random(98)
        near = 0
        for market in MARKETS + helper.GREAT + helper.alike_markets(99, 20):
            prices, told = clear(market)
            others = [helper.any_dealing(market, chance, all_dealt=True) for _ in range(4)]
            others += [tuple(tuple((number, 1) for number in row) for row in whole(market)[0])]
            others += [each for each in [helper.exchanged(market, prices, told, chance) for _ in range(4)]
                       if all(part[0] >= 0 for row in each for part in row)]
            for other in others:
                much = value(gain(market, other, told))
                self.assertLessEqual(much, 0)
                near += much == 0 and other != told
        self.assertGreater(near, 20)

    def test_no_dealing_is_better_than_the_told_one(self):
        chance = random.Random(100)
        for market in MARKETS:
            told = clear(market)[1]
            other = helper.any_dealing(market, chance, all_dealt=True)
            worths = [(worth(row, one), worth(row, two)) for row, one, two in zip(market[2], told, other)]
            if any(two > one for one, two in worths):
                self.assertTrue(any(two < one for one, two in worths))

    def test_worth_nothing(self):
        none = ((0, 1), (0, 1))
        for other in [(none, none), (((1, 1), (0, 1)), none), (none, ((1, 1), (0, 1))),
                      (((1, 1), (0, 1)), ((0, 1), (2, 1)))]:
            self.assert_refused(NoNumber, gain, TWO, PARTED, other)
            self.assert_refused(NoNumber, gain, TWO, other, other)
        # It is the other one that must be worth something, not the first one.
        self.assertEqual(gain(TWO, (none, none), PARTED), (-3, 1))

    def test_a_buyer_that_wishes_nothing(self):
        chance = random.Random(101)
        for market in LOST:
            dealing, other = (helper.any_dealing(market, chance) for _ in range(2))
            self.assert_refused(NoNumber, gain, market, dealing, other)

    def test_no_dealing(self):
        nothing = (((0, 1), (0, 1)),) * 2
        for thing in helper.wrong_dealings(TWO, PARTED):
            # Also ahead of NoNumber, where the other dealing, or the right one, is worth nothing to a buyer.
            for call in [(TWO, thing, PARTED), (TWO, PARTED, thing), (TWO, thing, nothing), (TWO, nothing, thing),
                         (TWO, thing, thing)]:
                self.assert_refused(NoDealing, gain, *call)
        for thing in helper.wrong_dealings(TWO, nothing):
            self.assert_refused(NoDealing, gain, TWO, PARTED, thing)

    def test_nothing_handed_in_is_changed(self):
        for thing in [PARTED, [list(row) for row in PARTED], list(PARTED), (list(PARTED[0]), PARTED[1]), None, "ab"]:
            before = copy.deepcopy(thing)
            for call in [lambda: rather(TWO, thing), lambda: gain(TWO, thing, PARTED), lambda: gain(TWO, PARTED, thing)]:
                told = []
                for _ in range(2):
                    try:
                        told.append(call())
                    except NoDealing:
                        told.append(NoDealing)
                self.assertEqual(told[0], told[1])
            self.assertEqual(repr(thing), repr(before))


if __name__ == "__main__":
    unittest.main()
