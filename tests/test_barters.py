"""Promise 21: barters; and promises 2 and 3 as far as they speak of them."""

import copy
import itertools
import random
import unittest
from fractions import Fraction

import helper
from helper import LARGEST, pair, pairs, scaled, subsets, value, with_part
from wishmart.barters import barred, is_barter, lets_by, market_at
from wishmart.clearing import clear
from wishmart.errors import MartError, NoPrices

# Each brings one piece of what the other one wishes.
SWAP = (((1, 0), (0, 1)), ((0, 1), (1, 0)))
ONE = (((10,),), ((100,),))
SIX = (tuple(tuple((row * 5 + good * 3) % 11 for good in range(6)) for row in range(6)),
       tuple(tuple((row * 17 + good * 29 + 1) % 101 for good in range(6)) for row in range(6)))
LONG = (((1, 2, 9, 10, 1),), ((5, 1, 100, 3, 1),))
BARTERS = [ONE, SWAP, SIX, (((1, 0, 3), (0, 2, 0)), ((2, 0, 1), (0, 100, 0)))]


def barter_by_words(brought, wishes):
    """Whether two tables of whole numbers, of one size within the bounds, are a barter."""
    rows = [*brought, *wishes, *zip(*brought), *zip(*wishes)]
    return (all(0 <= number <= 10 for row in brought for number in row)
            and all(0 <= number <= 100 for row in wishes for number in row) and all(any(row) for row in rows))


def any_barters(seed, many):
    """Barters of all sizes, many of them with few numbers that are not 0."""
    chance = random.Random(seed)
    made = []
    while len(made) < many:
        hands, goods = chance.randint(1, 6), chance.randint(1, 6)
        few = chance.choice([0.2, 0.3, 0.5, 0.9])
        tables = [tuple(tuple(chance.randint(1, most) if chance.random() < few else 0 for _ in range(goods))
                        for _ in range(hands)) for most in (10, 100)]
        if barter_by_words(*tables):
            made.append(tuple(tables))
    return made


def sparse_table(hands, goods, most, chance):
    """A table with few numbers above 0, but some for each hand and each good."""
    table = [[0] * goods for _ in range(hands)]
    for hand in range(hands):
        table[hand][chance.randrange(goods)] = chance.randint(1, most)
    for good in range(goods):
        if not any(row[good] for row in table):
            table[chance.randrange(hands)][good] = chance.randint(1, most)
    return tuple(map(tuple, table))


def sparse_barters(seed, many):
    """Barters in which each hand brings and wishes few goods, so that sets of hands are often shut in."""
    chance = random.Random(seed)
    sizes = [(chance.randint(2, 6), chance.randint(2, 6)) for _ in range(many)]
    return [tuple(sparse_table(*size, most, chance) for most in (10, 100)) for size in sizes]


def exchange(table, prices, chance):
    """Two hands exchange whole pieces for as much money, where both have enough of them and neither gets too many."""
    one, other = (chance.randrange(len(table)) for _ in range(2))
    good, back = (chance.randrange(len(prices)) for _ in range(2))
    if one != other and good != back:
        gives, takes = prices[back], prices[good]
        moved = [list(row) for row in table]
        moved[one][good] -= gives
        moved[other][good] += gives
        moved[one][back] += takes
        moved[other][back] -= takes
        if all(0 <= number <= 10 for row in moved for number in row):
            return moved
    return table


def let_by(chance):
    """(barter, prices, dealing), built so that they are let by."""
    while True:
        hands, goods = chance.randint(1, 6), chance.randint(1, 6)
        prices = [chance.randint(1, 4) for _ in range(goods)]
        got = [[chance.choice([0, chance.randint(0, 10)]) for _ in range(goods)] for _ in range(hands)]
        # What a hand gets is all alike good for it, anything else at most so.
        rates = [chance.randint(1, 20) for _ in range(hands)]
        wishes = [[price * rate if number else chance.randint(0, price * rate) for price, number in zip(prices, row)]
                  for rate, row in zip(rates, got)]
        brought = got
        for _ in range(40):
            brought = exchange(brought, prices, chance)
        barter = (tuple(map(tuple, brought)), tuple(map(tuple, wishes)))
        if barter_by_words(*barter):
            factor = Fraction(chance.randint(1, 99), chance.randint(1, 99))
            return barter, pairs(price * factor for price in prices), tuple(map(pairs, got))


BUILT = [let_by(random.Random(seed)) for seed in range(200)]


def market_by_words(barter, prices):
    brought, wishes = barter
    return (tuple(map(sum, zip(*brought))),
            pairs(sum(number * value(price) for number, price in zip(row, prices)) for row in brought), wishes)


def any_prices(barter, chance):
    return pairs(Fraction(chance.randint(1, 9), chance.randint(1, 9)) for _ in barter[0][0])


class IsBarterTest(unittest.TestCase):
    def assert_barter(self, thing):
        self.assertIs(is_barter(thing), True, thing)

    def assert_none(self, thing):
        self.assertIs(is_barter(thing), False, thing)

    def test_barters(self):
        for barter in BARTERS + [LONG] + any_barters(111, 100) + sparse_barters(111, 50) + [each[0] for each in BUILT]:
            self.assert_barter(barter)

    def test_all_small_tables(self):
        rows = list(itertools.product([0, 1], repeat=2))
        for brought in itertools.product(rows, repeat=2):
            for wishes in itertools.product(rows, repeat=2):
                self.assertIs(is_barter((brought, wishes)), barter_by_words(brought, wishes), (brought, wishes))

    def test_tables_with_few_numbers(self):
        chance = random.Random(112)
        seen = {True: 0, False: 0}
        for _ in range(500):
            hands, goods = chance.randint(1, 6), chance.randint(1, 6)
            tables = tuple(tuple(tuple(chance.choice([0, 0, 1, 9]) for _ in range(goods)) for _ in range(hands))
                           for _ in range(2))
            right = barter_by_words(*tables)
            self.assertIs(is_barter(tables), right, tables)
            seen[right] += 1
        self.assertGreater(min(seen.values()), 40, seen)

    def test_all_numbers_of_hands_and_goods(self):
        for hands, goods in itertools.product(range(9), repeat=2):
            table = ((1,) * goods,) * hands
            self.assertIs(is_barter((table, table)), 1 <= hands <= 6 and 1 <= goods <= 6)

    def test_numbers_at_and_beyond_their_bounds(self):
        for barter in BARTERS:
            for path in helper.places(barter):
                if len(path) == 3:
                    most = 10 if path[0] == 0 else 100
                    for number in [1, 2, most - 1, most]:
                        self.assert_barter(with_part(barter, path, number))
                    for number in [-1, -most, most + 1, most + 2, LARGEST, -LARGEST]:
                        self.assert_none(with_part(barter, path, number))
        self.assert_barter(with_part(SIX, (1, 2, 3), 11))
        self.assert_none(with_part(SIX, (0, 2, 3), 11))

    def test_a_nought_at_each_place(self):
        for barter in BARTERS + any_barters(113, 60):
            for path in helper.places(barter):
                if len(path) == 3:
                    other = with_part(barter, path, 0)
                    self.assertIs(is_barter(other), barter_by_words(*other), other)

    def test_hands_and_goods_that_are_left_out(self):
        ones = ((1, 1), (1, 1))
        for table in [((0, 0), (1, 1)), ((1, 1), (0, 0)), ((1, 0), (1, 0)), ((0, 1), (0, 1)), ((0, 0), (0, 0))]:
            self.assert_none((table, ones))
            self.assert_none((ones, table))
        self.assert_barter((((0, 1), (1, 0)), ones))
        self.assert_barter((ones, ((0, 1), (1, 0))))

    def test_one_part_put_otherwise(self):
        # A lone number, or a row of some, may be right in its place.
        wrong = [thing for thing in helper.ODD_THINGS + helper.NO_FRACTIONS if type(thing) is not int
                 and not (type(thing) is tuple and all(type(each) is int for each in thing))]
        for barter in BARTERS[1:]:
            for path in helper.places(barter):
                for thing in wrong:
                    self.assert_none(with_part(barter, path, thing))
                part = helper.part_at(barter, path)
                if isinstance(part, tuple):
                    for thing in [list(part), part[:-1], part[1:], part + part[-1:], part + (None,), (part,), (),
                                  part + (0,), part + (1,), [part], barter]:
                        if thing != barter or path:
                            self.assert_none(with_part(barter, path, thing))

    def test_tables_of_two_sizes(self):
        for one, other in itertools.product(itertools.product(range(1, 7), repeat=2), repeat=2):
            tables = tuple(((1,) * goods,) * hands for hands, goods in (one, other))
            self.assertIs(is_barter(tables), one == other)
        self.assert_none((((1, 1), (1,)), ((1, 1), (1,))))
        self.assert_none((((1,), (1, 1)), ((1,), (1, 1))))
        self.assert_none((((1, 1), (1,)), ((1, 1), (1, 1))))

    def test_anything(self):
        for thing in helper.ODD_THINGS + helper.NO_FRACTIONS + [
                list(SWAP), SWAP[0], SWAP + SWAP[:1], SWAP[:1], (SWAP,), repr(SWAP), ("ab", "ab"), (("a",), ("a",)),
                ((("a",),), (("a",),)), (((None,),), ((None,),)), (((True,),), ((True,),)), (((True,),), ((1,),)),
                (((1,),), ((True,),)), (([1],), ([1],)), ([(1,)], [(1,)]), (1, 1), ((1,), (1,)), helper.deep_nest()]:
            self.assertIs(is_barter(thing), False)
        deep = helper.deep_nest()
        for path in helper.places(SWAP):
            self.assertIs(is_barter(with_part(SWAP, path, deep)), False)

    def test_things_stay_as_they_were(self):
        for thing in BARTERS + [list(SWAP), [[[1]], [[1]]], ([(1,)], ((1,),)), *helper.ODD_THINGS]:
            before = copy.deepcopy(thing)
            told = is_barter(thing)
            self.assertIs(is_barter(thing), told)
            self.assertEqual(repr(thing), repr(before))


class MarketAtTest(unittest.TestCase):
    def test_told_as_written_out(self):
        self.assertEqual(market_at(SWAP, ((1, 2), (3, 1))), ((1, 1), ((1, 2), (3, 1)), ((0, 1), (1, 0))))
        self.assertEqual(market_at(ONE, ((1, LARGEST),)), ((10,), (pair(Fraction(10, LARGEST)),), ((100,),)))
        self.assertEqual(market_at(BARTERS[3], ((1, 3), (7, 1), (2, 9))),
                         ((1, 2, 3), ((1, 1), (14, 1)), ((2, 0, 1), (0, 100, 0))))

    def test_reckoned_anew(self):
        chance = random.Random(114)
        for barter in BARTERS + any_barters(114, 150):
            for prices in [any_prices(barter, chance), ((LARGEST, LARGEST - 1),) * len(barter[0][0])]:
                told = market_at(barter, prices)
                self.assertEqual(told, market_by_words(barter, prices))
                self.assertTrue(all(type(part) is tuple for part in told))
                self.assertTrue(all(helper.is_lowest(purse) for purse in told[1]))
                self.assertEqual(told[2], barter[1])

    def test_no_prices(self):
        chance = random.Random(115)
        for barter in BARTERS + any_barters(115, 4):
            prices = any_prices(barter, chance)
            market = market_by_words(barter, prices)
            for thing in helper.wrong_prices(market, prices):
                before = repr(thing)
                with self.assertRaises(MartError) as caught:
                    market_at(barter, thing)
                self.assertIs(type(caught.exception), NoPrices)
                self.assertEqual(repr(thing), before)

    def test_nought_is_no_price(self):
        for barter in BARTERS:
            prices = ((1, 1),) * len(barter[0][0])
            for good in range(len(prices)):
                self.assertRaises(NoPrices, market_at, barter, with_part(prices, (good,), (0, 1)))

    def test_the_same_again(self):
        chance = random.Random(116)
        for barter in BARTERS:
            prices = any_prices(barter, chance)
            before = repr((barter, prices))
            self.assertEqual(market_at(barter, prices), market_at(barter, prices))
            self.assertEqual(repr((barter, prices)), before)


class LetsByTest(unittest.TestCase):
    def test_told_as_written_out(self):
        self.assertIs(lets_by(SWAP, ((1, 1), (1, 1)), (((0, 1), (1, 1)), ((1, 1), (0, 1)))), True)
        self.assertIs(lets_by(SWAP, ((5, 3), (5, 3)), (((0, 1), (1, 1)), ((1, 1), (0, 1)))), True)
        # For less money than the other good costs nobody gets it whole.
        self.assertIs(lets_by(SWAP, ((1, 1), (2, 1)), (((0, 1), (1, 1)), ((1, 1), (0, 1)))), False)
        # What each has brought is worth nothing to it.
        self.assertIs(lets_by(SWAP, ((1, 1), (1, 1)), (((1, 1), (0, 1)), ((0, 1), (1, 1)))), False)
        self.assertIs(lets_by(ONE, ((7, 9),), (((10, 1),),)), True)

    def test_built_so_that_they_are_let_by(self):
        traded = 0
        for barter, prices, dealing in BUILT:
            self.assertIs(lets_by(barter, prices, dealing), True, (barter, prices, dealing))
            # Prices count only against each other.
            self.assertIs(lets_by(barter, scaled(prices, Fraction(LARGEST, 7)), dealing), True)
            traded += any(pairs(row) != got for row, got in zip(barter[0], dealing))
        self.assertGreater(traded, 60)

    def test_parts_of_pieces(self):
        # All goods are alike good for both: they may have any parts of them that come to what they bring.
        barter = (((2, 0), (0, 2)), ((1, 1), (1, 1)))
        for much in [Fraction(0), Fraction(1, 3), Fraction(1), Fraction(2), Fraction(LARGEST, LARGEST + 1)]:
            dealing = (pairs([much, 2 - much]), pairs([2 - much, much]))
            self.assertIs(lets_by(barter, ((3, 1), (3, 1)), dealing), True)
            self.assertIs(lets_by(barter, ((3, 1), (2, 1)), dealing), False)
        self.assertIs(lets_by(barter, ((1, 1), (1, 1)), (((3, 1), (-1, 1)), ((-1, 1), (3, 1)))), False)

    def test_purses_beyond_those_of_a_market(self):
        for price in [(LARGEST, 1), (1, LARGEST), (LARGEST, LARGEST - 1)]:
            self.assertIs(lets_by(SWAP, (price, price), (((0, 1), (1, 1)), ((1, 1), (0, 1)))), True)

    def test_one_price_put_otherwise(self):
        seen = {True: 0, False: 0}
        for barter, prices, dealing in BUILT:
            for good, price in enumerate(prices):
                for factor in [2, Fraction(1, 2), 1 + Fraction(1, LARGEST)]:
                    other = with_part(prices, (good,), pair(value(price) * factor))
                    right = helper.dealing_shows(market_by_words(barter, other), other, dealing)
                    self.assertIs(lets_by(barter, other, dealing), right)
                    seen[right] += 1
        # Sometimes one good's price counts against no other one: each brings just what it gets of it.
        self.assertGreater(min(seen.values()), 3, seen)

    def test_one_part_of_the_dealing_put_otherwise(self):
        for barter, prices, dealing in BUILT[:60]:
            for hand, row in enumerate(dealing):
                for good, part in enumerate(row):
                    for change in [1, -1, Fraction(1, LARGEST), -value(part)]:
                        if change:
                            wrong = with_part(dealing, (hand, good), pair(value(part) + change))
                            self.assertIs(lets_by(barter, prices, wrong), False)

    def test_anything(self):
        for barter, prices, dealing in BUILT[:6] + [(SWAP, ((1, 1),) * 2, (((0, 1), (1, 1)), ((1, 1), (0, 1))))]:
            market = market_by_words(barter, prices)
            for thing in helper.wrong_prices(market, prices):
                self.assertIs(lets_by(barter, thing, dealing), False, thing)
            for thing in helper.ODD_THINGS + helper.NO_FRACTIONS + [list(dealing), dealing[:-1], dealing + dealing,
                                                                    (dealing,), [list(row) for row in dealing]]:
                self.assertIs(lets_by(barter, prices, thing), False, thing)
                self.assertIs(lets_by(barter, thing, thing), False, thing)
            for path in helper.places(dealing):
                for thing in [True, False, None, "1", [], [1], (), (None,), (True, 1), (1, True), (2, 2), (0, 2)]:
                    self.assertIs(lets_by(barter, prices, with_part(dealing, path, thing)), False)
        deep = helper.deep_nest()
        self.assertIs(lets_by(SWAP, deep, deep), False)
        self.assertIs(lets_by(SWAP, ((1, 1), (1, 1)), deep), False)

    def test_truths_like_the_right_numbers(self):
        dealing = (((0, 1), (1, 1)), ((1, 1), (0, 1)))
        for prices in [((True, 1), (1, 1)), ((1, 1), (1, True))]:
            self.assertIs(lets_by(SWAP, prices, dealing), False)
        for path in helper.places(dealing):
            if len(path) == 3:
                wrong = with_part(dealing, path, bool(helper.part_at(dealing, path)))
                self.assertEqual(wrong, dealing)
                self.assertIs(lets_by(SWAP, ((1, 1), (1, 1)), wrong), False)


def shut_in_sets(barter):
    """All sets of hands that are shut in, gone through one by one."""
    brought, wishes = barter
    hands = range(len(brought))
    return [some for some in subsets(hands) if all(
        other in some for hand in some for good, wish in enumerate(wishes[hand]) if wish
        for other in hands if brought[other][good])]


def barring_goods(barter, some):
    brought, wishes = barter
    return [good for good in range(len(brought[0]))
            if any(brought[hand][good] for hand in some) and not any(wishes[hand][good] for hand in some)]


def barred_by_words(barter):
    sets = shut_in_sets(barter)
    if not any(barring_goods(barter, some) for some in sets):
        return None
    for hand in range(len(barter[0])):
        mine = [some for some in sets if hand in some]
        least = min(mine, key=len)
        assert all(set(least) <= set(some) for some in mine)
        if barring_goods(barter, least):
            return (least, barring_goods(barter, least)[0])
    raise AssertionError("a set bars the barter, but none that is told")


class BarredTest(unittest.TestCase):
    def check(self, barter):
        told = barred(barter)
        self.assertEqual(told, barred_by_words(barter), barter)
        if told is not None:
            self.assertIs(type(told), tuple)
            self.assertTrue(helper.is_rising(told[0]))
            self.assertIs(type(told[1]), int)
        return told

    def test_told_as_written_out(self):
        for barter, told in [
            (SWAP, None), (ONE, None),
            # Hand 0 wishes only what it brings itself, and brings a good that it does not wish.
            ((((1, 1), (0, 1)), ((1, 0), (1, 1))), ((0,), 1)),
            ((((0, 1), (1, 1)), ((1, 1), (0, 1))), None),
            # Hands 0 and 2 have all that they wish, and bring goods 1 and 3 for hand 1, that brings nothing they wish.
            ((((1, 1, 0, 0), (0, 0, 1, 0), (1, 0, 0, 1)), ((1, 0, 0, 0), (0, 1, 1, 1), (1, 0, 0, 0))), ((0, 2), 1)),
            # Hand 1 brings all that hands 0 and 1 wish, and good 1, too.
            ((((0, 0, 1), (1, 1, 0), (0, 0, 1)), ((1, 0, 0), (1, 0, 0), (0, 1, 1))), ((0, 1), 1)),
            # With hand 0 comes hand 1, and together they wish all; but hand 1 alone bars it.
            ((((0, 0, 1), (1, 1, 0)), ((0, 1, 1), (1, 0, 0))), ((1,), 1)),
            (LONG, None),
        ]:
            with self.subTest(barter=barter):
                self.assertEqual(barred(barter), told)
                self.assertTrue(is_barter(barter))

    def test_small_barters_against_all_sets(self):
        seen = {True: 0, False: 0}
        for size in [(2, 2), (2, 3), (3, 2)]:
            rows = list(itertools.product([0, 1], repeat=size[1]))
            tables = list(itertools.product(rows, repeat=size[0]))
            for barter in itertools.product(tables, repeat=2):
                if barter_by_words(*barter):
                    seen[self.check(barter) is None] += 1
        self.assertGreater(min(seen.values()), 100, seen)

    def test_great_barters_against_all_sets(self):
        seen = {}
        for barter in any_barters(117, 200) + sparse_barters(117, 600) + BARTERS:
            told = self.check(barter)
            many = 0 if told is None else len(told[0])
            seen[many] = seen.get(many, 0) + 1
        self.assertTrue(all(seen.get(many, 0) > 10 for many in range(4)), seen)

    def test_none_where_prices_are_let_by(self):
        for barter, prices, dealing in BUILT:
            self.assertIs(barred(barter), None)

    def test_where_it_is_barred_no_prices_and_dealing_are_let_by(self):
        chance = random.Random(118)
        many = 0
        for barter in sparse_barters(119, 150):
            if barred(barter) is not None:
                prices = any_prices(barter, chance)
                for _ in range(5):
                    market = market_at(barter, prices)
                    if all(purse[0] for purse in market[1]):
                        # The prices that clear for these purses give the hands other ones.
                        found, dealing = clear(market)
                        for one, other in [(prices, dealing), (found, dealing)]:
                            self.assertIs(lets_by(barter, one, other), False)
                        prices = pairs(value(price).limit_denominator(1000) + Fraction(1, 1000) for price in found)
                many += 1
        self.assertGreater(many, 50)

    def test_the_same_again(self):
        for barter, other in itertools.pairwise(sparse_barters(120, 60)):
            before = repr(barter)
            told = barred(barter)
            barred(other)
            self.assertEqual(barred(barter), told)
            self.assertEqual(repr(barter), before)


if __name__ == "__main__":
    unittest.main()
