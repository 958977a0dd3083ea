"""Promises 15 and 16: fairs; and promises 2 and 3 as far as they speak of them."""

import copy
import itertools
import random
import unittest

import helper
from helper import LARGEST, MILLION, WRONG_AMOUNTS, WRONG_PURSES, WRONG_WISHES, changed, value, with_part
from wishmart.clearing import clear
from wishmart.errors import MartError, NoBuyer, NoGood, NoMarket, NoNumber, Nothing, Unwished
from wishmart.fairs import Fair
from wishmart.rises import first_prices, rises

# Two goods, the second one wished by buyer 1 alone, that wishes nothing else; good 2 is free.
SMALL = ((1, 2, 9), ((3, 1), (5, 1)), ((4, 0, 0), (0, 1, 0)))
MARKETS = [SMALL, ((1,), ((1, 1),), ((1,),))] + helper.some_markets(31, 12) + helper.some_markets(32, 3, least=6)


def far_numbers(many):
    """Whole numbers that are none of 0 to many - 1."""
    return [-1, many, many + 1, -many, -many - 1, 6, 7, 100, -100, MILLION, LARGEST, -LARGEST]


class Beside:
    """What a fair has to tell, kept beside it by the words of the document."""

    def __init__(self, market):
        self.kept = [(market, rises(market, first_prices(market)))]

    def market(self):
        return self.kept[-1][0]

    def last_rises(self):
        return self.kept[-1][1]

    def do(self, change):
        ahead = self.market()
        market = changed(ahead, change)
        if market == ahead:
            told = []
        elif change[0] == "purse" and value(market[1][change[1]]) > value(ahead[1][change[1]]):
            told = rises(market, clear(ahead)[0])
        else:
            told = rises(market, first_prices(market))
        self.kept.append((market, told))

    def back(self):
        self.kept.pop()


def do(fair, change):
    return getattr(fair, change[0])(*change[1:])


def all_told(fair):
    return fair.market(), fair.prices(), fair.last_rises()


class FairCase(unittest.TestCase):
    def assert_as(self, fair, beside):
        self.assertEqual(fair.market(), beside.market())
        self.assertEqual(fair.prices(), clear(beside.market())[0])
        self.assertEqual(fair.last_rises(), beside.last_rises())
        self.assertIs(type(fair.last_rises()), list)

    def assert_refused(self, error, fair, change):
        """Refused with just this one, and nothing changed."""
        before = all_told(fair)
        handed_in = repr(change)
        with self.assertRaises(MartError) as caught:
            do(fair, change)
        self.assertIs(type(caught.exception), error, change)
        self.assertEqual(all_told(fair), before)
        self.assertEqual(repr(change), handed_in)

    def changed_fair(self, market, chance, many):
        """A fair behind some changes, and what is kept beside it."""
        fair, beside = Fair(market), Beside(market)
        for _ in range(many):
            change = helper.some_change(beside.market(), chance)
            self.assertIsNone(do(fair, change))
            beside.do(change)
        return fair, beside


class MadeTest(FairCase):
    def test_of_a_market(self):
        for market in MARKETS + helper.GREAT:
            self.assert_as(Fair(market), Beside(market))

    def test_told_as_written_out(self):
        fair = Fair(SMALL)
        self.assertEqual(fair.market(), SMALL)
        self.assertEqual(fair.prices(), ((3, 1), (5, 2), (0, 1)))
        self.assertEqual(fair.last_rises(), [((), (5, 2), ((5, 2), (5, 2), (0, 1))),
                                             ((1,), (6, 5), ((3, 1), (5, 2), (0, 1)))])

    def test_no_market(self):
        things = list(helper.ODD_THINGS) + [helper.deep_nest()]
        for market in MARKETS[:3]:
            things += [list(market), market[:2], market + (None,), market[::-1], (market,), repr(market)]
            for path in helper.places(market):
                part = helper.part_at(market, path)
                things += [with_part(market, path, wrong) for wrong in [True, False, None, "1", -1, [], (), LARGEST]]
                if isinstance(part, tuple):
                    things += [with_part(market, path, list(part)), with_part(market, path, part + part[:1])]
        things += [with_part(SMALL, path, number) for path, number in [
            ((0, 0), 0), ((0, 0), 61), ((1, 0), (0, 1)), ((1, 0), (2, 2)), ((1, 0), (MILLION + 1, 1)),
            ((1, 0), (1, MILLION + 1)), ((2, 0, 0), 101), ((2, 1, 1), -1)]]
        for thing in things:
            with self.assertRaises(MartError) as caught:
                Fair(thing)
            self.assertIs(type(caught.exception), NoMarket)

    def test_unwished(self):
        for market in helper.with_wishless(33, 40):
            with self.assertRaises(MartError) as caught:
                Fair(market)
            self.assertIs(type(caught.exception), Unwished)

    def test_no_market_goes_ahead_of_unwished(self):
        for market in helper.with_wishless(34, 20):
            for path, part in [((0, 0), 0), ((0, 0), 61), ((1, 0), (2, 2)), ((2, 0), list(market[2][0]))]:
                with self.assertRaises(MartError) as caught:
                    Fair(with_part(market, path, part))
                self.assertIs(type(caught.exception), NoMarket)

    def test_what_is_handed_in_stays_as_it_was(self):
        for thing in [SMALL, list(SMALL), ([1], [[1, 1]], [[0]]), *helper.ODD_THINGS]:
            before = copy.deepcopy(thing)
            try:
                Fair(thing)
            except NoMarket:
                pass
            self.assertEqual(repr(thing), repr(before))


class ChangesTest(FairCase):
    def test_many_changes_one_behind_the_other(self):
        chance = random.Random(35)
        seen = {"more": 0, "less": 0, "same": 0, "amount": 0, "wish": 0}
        for market in MARKETS:
            fair, beside = Fair(market), Beside(market)
            for _ in range(40):
                ahead = beside.market()
                change = helper.some_change(ahead, chance)
                self.assertIsNone(do(fair, change))
                beside.do(change)
                self.assert_as(fair, beside)
                behind = beside.market()
                if behind == ahead:
                    seen["same"] += 1
                elif change[0] != "purse":
                    seen[change[0]] += 1
                else:
                    grown = value(behind[1][change[1]]) > value(ahead[1][change[1]])
                    seen["more" if grown else "less"] += 1
        self.assertGreater(min(seen.values()), 40, seen)

    def test_changes_and_goings_back_mixed(self):
        chance = random.Random(36)
        for market in MARKETS:
            fair, beside = Fair(market), Beside(market)
            for _ in range(60):
                if len(beside.kept) > 1 and chance.random() < 0.45:
                    self.assertIsNone(fair.back())
                    beside.back()
                else:
                    change = helper.some_change(beside.market(), chance)
                    do(fair, change)
                    beside.do(change)
                self.assert_as(fair, beside)

    def test_300_changes_and_all_the_way_back(self):
        chance = random.Random(37)
        for market in [SMALL] + helper.some_markets(38, 2, least=5):
            fair, beside = Fair(market), Beside(market)
            told = [all_told(fair)]
            for _ in range(300):
                change = helper.some_change(beside.market(), chance)
                do(fair, change)
                beside.do(change)
                told.append(all_told(fair))
            self.assert_as(fair, beside)
            while len(told) > 1:
                told.pop()
                self.assertIsNone(fair.back())
                self.assertEqual(all_told(fair), told[-1])
            self.assertRaises(Nothing, fair.back)
            self.assertEqual(all_told(fair), told[0])

    def test_what_can_be_set_at_its_bounds(self):
        fair = Fair(SMALL)
        for change in [("purse", 0, (MILLION, 1)), ("purse", 1, (1, MILLION)), ("purse", 0, (MILLION - 1, MILLION)),
                       ("purse", 1, (MILLION, MILLION - 1)), ("amount", 0, 60), ("amount", 1, 1), ("amount", 2, 60),
                       ("wish", 0, 1, 100), ("wish", 1, 2, 1), ("wish", 0, 0, 0)]:
            market = changed(fair.market(), change)
            do(fair, change)
            self.assertEqual(fair.market(), market)
            self.assertEqual(fair.prices(), clear(market)[0])

    def test_goods_come_to_be_wished_and_free(self):
        fair = Fair(SMALL)
        fair.wish(0, 2, 1)
        self.assertEqual(fair.prices(), clear(changed(SMALL, ("wish", 0, 2, 1)))[0])
        self.assertNotEqual(fair.prices()[2], (0, 1))
        fair.wish(0, 2, 0)
        self.assertEqual(fair.prices(), ((3, 1), (5, 2), (0, 1)))

    def test_however_a_market_came_to_be(self):
        # By several ways, there and back, one market: its prices are the same.
        chance = random.Random(39)
        for market in MARKETS[2:8]:
            target = helper.one_market(chance, len(market[0]), len(market[1]))
            target = with_part(target, (2,), tuple(tuple(wish + 1 if wish < 100 else wish for wish in row)
                                                   for row in target[2]))
            changes = [("purse", buyer, purse) for buyer, purse in enumerate(target[1])]
            changes += [("amount", good, number) for good, number in enumerate(target[0])]
            changes += [("wish", buyer, good, number) for buyer, row in enumerate(target[2])
                        for good, number in enumerate(row)]
            for _ in range(3):
                chance.shuffle(changes)
                fair, beside = self.changed_fair(market, chance, 3)
                for change in changes:
                    do(fair, change)
                    do(fair, helper.some_change(fair.market(), chance))
                    fair.back()
                self.assertEqual(fair.market(), target)
                self.assertEqual(fair.prices(), clear(target)[0])


class RefusedTest(FairCase):
    def test_no_buyer(self):
        for market in MARKETS:
            fair = Fair(market)
            for buyer in far_numbers(len(market[1])):
                if buyer not in range(len(market[1])):
                    self.assert_refused(NoBuyer, fair, ("purse", buyer, (1, 1)))
                    self.assert_refused(NoBuyer, fair, ("wish", buyer, 0, 1))

    def test_no_good(self):
        for market in MARKETS:
            fair = Fair(market)
            for good in far_numbers(len(market[0])):
                if good not in range(len(market[0])):
                    self.assert_refused(NoGood, fair, ("amount", good, 1))
                    self.assert_refused(NoGood, fair, ("wish", 0, good, 1))

    def test_no_number(self):
        for market in MARKETS[:5]:
            fair = Fair(market)
            for thing in WRONG_PURSES:
                self.assert_refused(NoNumber, fair, ("purse", 0, thing))
            for thing in WRONG_AMOUNTS:
                self.assert_refused(NoNumber, fair, ("amount", len(market[0]) - 1, thing))
            for thing in WRONG_WISHES:
                self.assert_refused(NoNumber, fair, ("wish", len(market[1]) - 1, 0, thing))

    def test_a_deep_nest(self):
        fair = Fair(SMALL)
        deep = helper.deep_nest()
        for change in [("purse", 0, deep), ("purse", 0, (deep, 1)), ("amount", 0, deep), ("wish", 0, 0, deep)]:
            self.assertRaises(NoNumber, do, fair, change)
        self.assertEqual(all_told(fair), all_told(Fair(SMALL)))

    def test_truths_and_fractions_like_what_is_there(self):
        fair = Fair(((1, 1), ((1, 1), (1, 2)), ((1, 0), (1, 1))))
        for change in [("purse", 0, (True, 1)), ("purse", 0, (1, True)), ("purse", 1, (2, 4)), ("purse", 0, [1, 1]),
                       ("purse", 0, 1), ("amount", 0, True), ("wish", 0, 0, True), ("wish", 0, 1, False)]:
            self.assert_refused(NoNumber, fair, change)

    def test_unwished(self):
        for market in MARKETS:
            for buyer, row in enumerate(market[2]):
                fair = Fair(market)
                goods = [good for good, wish in enumerate(row) if wish]
                for good in goods[:-1]:
                    fair.wish(buyer, good, 0)
                self.assert_refused(Unwished, fair, ("wish", buyer, goods[-1], 0))
                fair.wish(buyer, goods[-1], 1)
                self.assertEqual(fair.prices(), clear(fair.market())[0])

    def test_two_reasons_at_once(self):
        fair = Fair(SMALL)
        for buyer, good, number in itertools.product([0, 2, -1], [0, 3, -1], [0, 101, "0"]):
            # Buyer 0 wishes good 0 alone.
            error = NoBuyer if buyer else NoGood if good else NoNumber if number else Unwished
            self.assert_refused(error, fair, ("wish", buyer, good, number))
        for thing in WRONG_PURSES:
            self.assert_refused(NoBuyer, fair, ("purse", 2, thing))
        for thing in WRONG_AMOUNTS:
            self.assert_refused(NoGood, fair, ("amount", 3, thing))
            self.assert_refused(NoGood, fair, ("amount", -1, thing))

    def test_behind_a_refusal_the_last_change_that_was_done_is_undone(self):
        chance = random.Random(40)
        for market in MARKETS:
            fair, beside = self.changed_fair(market, chance, 4)
            for change, error in [(("purse", 9, (1, 1)), NoBuyer), (("amount", 9, 1), NoGood),
                                  (("purse", 0, (2, 2)), NoNumber), (("amount", 0, 61), NoNumber),
                                  (("wish", 0, 0, -1), NoNumber)] * 2:
                self.assert_refused(error, fair, change)
            while len(beside.kept) > 1:
                fair.back()
                beside.back()
                self.assert_as(fair, beside)
                self.assert_refused(NoNumber, fair, ("wish", 0, 0, 101))
            self.assert_refused(Nothing, fair, ("back",))

    def test_nothing_to_undo(self):
        for market in MARKETS:
            fair = Fair(market)
            for _ in range(3):
                self.assert_refused(Nothing, fair, ("back",))
            fair.amount(0, market[0][0])
            fair.back()
            self.assert_refused(Nothing, fair, ("back",))
            fair.purse(0, (7, 1))
            self.assertEqual(fair.prices(), clear(changed(market, ("purse", 0, (7, 1))))[0])


class LastRisesTest(FairCase):
    def test_told_as_written_out(self):
        fair = Fair(SMALL)
        first = fair.last_rises()
        fair.purse(0, (6, 1))
        self.assertEqual(fair.last_rises(), [((1,), (2, 1), ((6, 1), (5, 2), (0, 1)))])
        fair.purse(0, (6, 1))
        self.assertEqual(fair.last_rises(), [])
        fair.purse(0, (3, 1))
        self.assertEqual(fair.last_rises(), first)
        fair.amount(2, 8)
        self.assertEqual(fair.last_rises(), first)
        fair.wish(0, 0, 5)
        self.assertEqual(fair.last_rises(), first)
        for told in [first, first, [], [((1,), (2, 1), ((6, 1), (5, 2), (0, 1)))], first]:
            fair.back()
            self.assertEqual(fair.last_rises(), told)
        self.assertRaises(Nothing, fair.back)
        self.assertEqual(fair.last_rises(), first)

    def test_where_a_purse_grew_they_go_on_from_the_prices_ahead(self):
        for market in MARKETS:
            for buyer, purse in enumerate(market[1]):
                fair = Fair(market)
                ahead = fair.prices()
                more = helper.pair(value(purse) * 2) if max(purse) * 2 <= MILLION else (MILLION, 1)
                if value(more) > value(purse):
                    fair.purse(buyer, more)
                    self.assertEqual(fair.last_rises(), rises(fair.market(), ahead))
                    self.assertNotEqual(fair.last_rises(), [])
                    fair.purse(buyer, purse)
                    self.assertEqual(fair.last_rises(), rises(market, first_prices(market)))

    def test_none_for_a_change_to_what_is_there_already(self):
        for market in MARKETS:
            fair = Fair(market)
            first = fair.last_rises()
            for change in [("purse", 0, market[1][0]), ("amount", 0, market[0][0]), ("wish", 0, 0, market[2][0][0])]:
                do(fair, change)
                self.assertEqual(all_told(fair), (market, clear(market)[0], []))
            for told in [[], [], first]:
                fair.back()
                self.assertEqual(fair.last_rises(), told)

    def test_a_new_list_each_time(self):
        chance = random.Random(41)
        for market in MARKETS:
            fair, beside = self.changed_fair(market, chance, 2)
            for _ in range(3):
                told = fair.last_rises()
                self.assertIsNot(told, fair.last_rises())
                told.append("more")
                told[:1] = []
                self.assert_as(fair, beside)
                told.clear()
                self.assert_as(fair, beside)
                if len(beside.kept) > 1:
                    fair.back()
                    beside.back()


class BesideEachOtherTest(FairCase):
    def test_several_fairs_of_one_market(self):
        chance = random.Random(42)
        for market in MARKETS:
            both = [(Fair(market), Beside(market)) for _ in range(3)]
            for _ in range(20):
                fair, beside = chance.choice(both)
                if len(beside.kept) > 1 and chance.random() < 0.3:
                    fair.back()
                    beside.back()
                else:
                    change = helper.some_change(beside.market(), chance)
                    do(fair, change)
                    beside.do(change)
                for one, other in both:
                    self.assertEqual(one.market(), other.market())
                    self.assertEqual(one.last_rises(), other.last_rises())
            for fair, beside in both:
                self.assert_as(fair, beside)

    def test_a_fair_of_what_another_one_tells(self):
        fair = Fair(SMALL)
        fair.purse(0, (4, 1))
        other = Fair(fair.market())
        other.purse(0, (9, 1))
        self.assertEqual(fair.market()[1][0], (4, 1))
        self.assertRaises(Nothing, lambda: (other.back(), other.back()))
        fair.back()
        self.assertEqual(fair.market(), SMALL)


if __name__ == "__main__":
    unittest.main()
