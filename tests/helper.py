"""What several test files share.

The words of the document are told here once more, by Python's own fractions and by going through everything one by
one, so that the program can be held against them.
"""

import itertools
import math
import random
from fractions import Fraction

MILLION = 10 ** 6
LARGEST = 10 ** 60 - 1

# None of these is a number that fits somewhere, a fraction, prices, or a dealing, of whatever market.
ODD_THINGS = [True, False, None, "", "1", "1/2", "ab", -1, LARGEST, -LARGEST, [], [1], [1, 1], [[1, 1]], [()], (),
              (None,), (True,), ("",), ((),), ([],), ((((1,),),),), ("a", "b"), (1, "1"), ("1", 1), (None, 1),
              (1, None), ([1], 1), (1, (1,)), ((1, 1), (1, 1), (1, 1), (1, 1), (1, 1), (1, 1), (1, 1), (1, 1))]

# Each of these is near to a fraction above nought, or to nought, and is none.
NO_FRACTIONS = [(True, 1), (1, True), (True, True), (False, 1), (0, True), (False, True), (2, True), (True, 2),
                (0, 2), (0, 0), (0, -1), (1, 0), (1, -1), (-1, -1), (2, 2), (2, 4), (6, 3), (LARGEST, LARGEST),
                (10 ** 59, 10), (1,), (1, 1, 1), [1, 1], [0, 1], [1, 2], 0, 1, 7, "1", "0"]


def value(told):
    """A told fraction as Python's own."""
    return Fraction(told[0], told[1])


def pair(number):
    """Python's own fraction as a tuple."""
    number = Fraction(number)
    return (number.numerator, number.denominator)


def pairs(numbers):
    return tuple(pair(number) for number in numbers)


def is_lowest(told):
    """Whether something told is just a tuple of two whole numbers in lowest terms, the bottom from 1 on."""
    return (type(told) is tuple and len(told) == 2 and type(told[0]) is int and type(told[1]) is int
            and told[1] >= 1 and math.gcd(told[0], told[1]) == 1)


def is_rising(told):
    """Whether something told is just a rising tuple of whole numbers."""
    return type(told) is tuple and all(type(each) is int for each in told) and list(told) == sorted(set(told))


def places(thing, path=()):
    """All places in a nest of tuples, the whole first."""
    yield path
    if isinstance(thing, tuple):
        for at, part in enumerate(thing):
            yield from places(part, path + (at,))


def part_at(thing, path):
    for at in path:
        thing = thing[at]
    return thing


def with_part(thing, path, part):
    """The same nest of tuples, with another part at that place."""
    if not path:
        return part
    at = path[0]
    return thing[:at] + (with_part(thing[at], path[1:], part),) + thing[at + 1:]


def deep_nest():
    deep = ()
    for _ in range(100000):
        deep = (deep,)
    return deep


def subsets(members):
    """All sets of the members as tuples, those of fewer members first."""
    members = list(members)
    return [some for size in range(len(members) + 1) for some in itertools.combinations(members, size)]


# Markets.

def wished_goods(market):
    return [good for good in range(len(market[0])) if any(row[good] for row in market[2])]


def all_wish(market):
    return all(any(row) for row in market[2])


WISHES = [lambda chance: chance.randint(0, 100), lambda chance: chance.choice([0, 1, 2, 3]),
          lambda chance: chance.choice([0, 0, 1, 100]), lambda chance: chance.choice([0, 0, 0, chance.randint(1, 100)]),
          lambda chance: chance.choice([1, 2, 4])]
PURSES = [lambda chance: Fraction(chance.randint(1, 9)),
          lambda chance: Fraction(chance.randint(1, 9), chance.randint(1, 9)),
          lambda chance: Fraction(chance.randint(1, MILLION), chance.randint(1, MILLION)),
          lambda chance: Fraction(MILLION) if chance.random() < 0.5 else Fraction(1, MILLION)]
AMOUNTS = [lambda chance: chance.randint(1, 4), lambda chance: chance.randint(1, 60),
           lambda chance: chance.choice([1, 60])]


def one_market(chance, goods, buyers):
    wish, purse, amount = chance.choice(WISHES), chance.choice(PURSES), chance.choice(AMOUNTS)
    wishes = [[wish(chance) for _ in range(goods)] for _ in range(buyers)]
    if goods > 1 and chance.random() < 0.3:
        free = chance.randrange(goods)
        for row in wishes:
            row[free] = 0
    return (tuple(amount(chance) for _ in range(goods)), pairs(purse(chance) for _ in range(buyers)),
            tuple(tuple(row) for row in wishes))


def some_markets(seed, many, most_goods=6, most_buyers=6, least=1):
    """Markets in which each buyer wishes something: many and mixed, always the same ones for a seed."""
    chance = random.Random(seed)
    made = []
    while len(made) < many:
        market = one_market(chance, chance.randint(least, most_goods), chance.randint(least, most_buyers))
        if all_wish(market):
            made.append(market)
    return made


def with_wishless(seed, many, most=4):
    """Markets in which some buyer, or each one, wishes nothing."""
    chance = random.Random(seed)
    made = []
    while len(made) < many:
        amounts, purses, wishes = one_market(chance, chance.randint(1, most), chance.randint(1, most))
        none = {chance.randrange(len(wishes)) for _ in range(chance.choice([1, 1, 2, 9]))}
        wishes = tuple((0,) * len(row) if buyer in none else row for buyer, row in enumerate(wishes))
        made.append((amounts, purses, wishes))
    return made


def alike_markets(seed, many):
    """Markets in which all goods are alike good for all buyers, so that many dealings show the prices that clear."""
    chance = random.Random(seed)
    made = []
    for market in some_markets(seed, many, least=2):
        worth = [chance.randint(1, 10) for _ in market[0]]
        rows = [[chance.randint(1, 10)] * len(worth) for _ in market[1]]
        made.append(market[:2] + (tuple(tuple(a * b for a, b in zip(row, worth)) for row in rows),))
    return made


# Markets as great as they can be, with purses far apart and alike.
GREAT = [
    ((60,) * 6, ((MILLION, 1),) * 6,
     tuple(tuple((row * 37 + good * 59) % 101 for good in range(6)) for row in range(6))),
    ((60,) * 6, ((1, MILLION),) * 6, ((100,) * 6,) * 6),
    ((1, 60, 1, 60, 1, 60), ((1, MILLION), (MILLION, 1)) * 3,
     tuple(tuple(100 if row == good else 1 for good in range(6)) for row in range(6))),
    ((59, 60, 58, 57, 56, 53), tuple(((MILLION - 7 * at, MILLION - 7 * at - 1)) for at in range(6)),
     tuple(tuple(100 - (row + 2 * good) % 6 for good in range(6)) for row in range(6))),
    ((60, 1, 60, 1, 60, 1), ((MILLION, 1), (1, MILLION), (1, 1), (999983, MILLION), (MILLION, 999983), (1, 2)),
     tuple(tuple(max(0, 100 - 30 * abs(row - good)) for good in range(6)) for row in range(6))),
]


# The words of the document.

def money(market, prices, goods):
    return sum((market[0][good] * value(prices[good]) for good in goods), Fraction(0))


def purses_of(market, buyers):
    return sum((value(market[1][buyer]) for buyer in buyers), Fraction(0))


def best(market, prices):
    told = []
    for row in market[2]:
        mine = [good for good, wish in enumerate(row) if wish > 0]
        told.append(tuple(good for good in mine if all(
            row[good] / value(prices[good]) >= row[other] / value(prices[other]) for other in mine)))
    return tuple(told)


def takers_of(market, prices, goods):
    return tuple(buyer for buyer, mine in enumerate(best(market, prices)) if set(mine) & set(goods))


def goods_too_dear_by(market, prices):
    """For each set of wished goods by how much it is too dear."""
    mine = best(market, prices)
    told = {}
    for some in subsets(wished_goods(market)):
        buyers = [buyer for buyer in range(len(mine)) if set(mine[buyer]) & set(some)]
        told[some] = money(market, prices, some) - purses_of(market, buyers)
    return told


def buyers_too_rich_by(market, prices):
    """For each set of buyers by how much it is too rich."""
    mine = best(market, prices)
    told = {}
    for some in subsets(range(len(market[1]))):
        goods = {good for buyer in some for good in mine[buyer]}
        told[some] = purses_of(market, some) - money(market, prices, goods)
    return told


def can_be_paid(market, prices):
    return max(goods_too_dear_by(market, prices).values()) <= 0


def do_clear(market, prices):
    return can_be_paid(market, prices) and max(buyers_too_rich_by(market, prices).values()) <= 0


def dealing_shows(market, prices, dealing):
    """Whether a dealing, by its form one, shows prices."""
    amounts, purses, wishes = market
    mine = best(market, prices)
    wanted = wished_goods(market)
    sold = all(sum(value(row[good]) for row in dealing) == (amount if good in wanted else 0)
               for good, amount in enumerate(amounts))
    only_best = all(value(part) == 0 or good in mine[buyer]
                    for buyer, row in enumerate(dealing) for good, part in enumerate(row))
    spent = all(sum(value(part) * value(price) for part, price in zip(row, prices)) == value(purse)
                for row, purse in zip(dealing, purses))
    return sold and only_best and spent


def exchanged(market, prices, dealing, chance):
    """The dealing, when a buyer has given another one half of a good for as much money of another good."""
    one, other = (chance.randrange(len(market[1])) for _ in range(2))
    good, back = (chance.choice(wished_goods(market)) for _ in range(2))
    much = value(dealing[one][good]) / 2
    for_it = much * value(prices[good]) / value(prices[back])
    moved = [[value(part) for part in row] for row in dealing]
    moved[one][good] -= much
    moved[other][good] += much
    moved[one][back] += for_it
    moved[other][back] -= for_it
    return tuple(pairs(row) for row in moved)


# Prices.

def scaled(prices, factor):
    return pairs(value(price) * factor for price in prices)


def any_prices(market, chance):
    """Prices of a market at which several goods are often alike good for a buyer."""
    row = chance.choice(market[2])
    wanted = wished_goods(market)
    made = []
    for good, wish in enumerate(row):
        other = Fraction(chance.randint(1, 6), chance.randint(1, 6))
        made.append(0 if good not in wanted else wish if wish and chance.random() < 0.8 else other)
    return pairs(made)


def taken_prices(market, chance):
    """Prices at which each wished good is best for some buyer."""
    made = any_prices(market, chance)
    for good in wished_goods(market):
        if not takers_of(market, made, (good,)):
            # The greatest price at which it is best for one, so that no other good loses a buyer by it.
            fits = [Fraction(row[good]) / max(Fraction(row[other]) / value(made[other])
                                              for other in range(len(row)) if row[other] and other != good)
                    for row in market[2] if row[good]]
            made = with_part(made, (good,), pair(max(fits)))
    return made


def just_paid(market, prices):
    """Prices multiplied so that they can just be paid: some set is paid up."""
    ratios = [purses_of(market, takers_of(market, prices, some)) / money(market, prices, some)
              for some in subsets(wished_goods(market)) if some]
    return scaled(prices, min(ratios)) if ratios else prices


def payable_prices(market, chance):
    """Prices that can be paid, some set just paid up or none, in a market in which somebody wishes something."""
    prices = just_paid(market, taken_prices(market, chance))
    return scaled(prices, chance.choice([1, 1, Fraction(1, 2), Fraction(1, 1000)]))


def wrong_prices(market, prices):
    """Things that are no prices of the market: prices with one part put otherwise, and anything else."""
    wanted = wished_goods(market)
    for good in range(len(prices)):
        worse = [(0, 1)] if good in wanted else [(1, 1), (1, LARGEST), (LARGEST, 1)]
        worse += [(-1, 1), (-1, 2), (-LARGEST, 1), prices, list(prices[good])]
        for part in worse + NO_FRACTIONS + ODD_THINGS:
            yield with_part(prices, (good,), part)
        for at in range(2):
            for part in [True, False, None, "1", [1], (1,), str(prices[good][at]), (prices[good][at],)]:
                yield with_part(prices, (good, at), part)
        yield prices[:good] + prices[good + 1:]
    yield from [list(prices), prices + ((1, 1),), prices + ((0, 1),), prices + (None,), prices + prices, (prices,),
                [list(price) for price in prices], tuple(list(price) for price in prices),
                market, market[0], market[1:]]
    yield from ODD_THINGS


# Rises.

def raised(prices, goods, factor):
    return pairs(value(price) * (factor if good in goods else 1) for good, price in enumerate(prices))


def meeting(market, prices, paid, rising):
    """The factors at which, for a buyer that takes no paid good, one is best beside a good that rises."""
    bound = takers_of(market, prices, paid)
    for buyer, row in enumerate(market[2]):
        for good in paid:
            for other in rising:
                if buyer not in bound and row[good] and row[other]:
                    factor = (row[other] / value(prices[other])) / (row[good] / value(prices[good]))
                    if factor > 0 and {good, other} <= set(best(market, raised(prices, rising, factor))[buyer]):
                        yield factor


# Changes of a market: ("purse", buyer, fraction), ("amount", good, number), ("wish", buyer, good, number).

def new_purse(purse, chance):
    """A purse that a market can have: more, less, or the same."""
    while True:
        made = chance.choice([value(purse), value(purse) * 2, value(purse) / 2, value(purse) + 1,
                              value(purse) * Fraction(chance.randint(1, 9), chance.randint(1, 9)),
                              Fraction(chance.randint(1, 99), chance.randint(1, 9)),
                              Fraction(chance.randint(1, MILLION), chance.randint(1, MILLION)),
                              Fraction(1, MILLION), Fraction(MILLION)])
        if max(pair(made)) <= MILLION:
            return pair(made)


def any_change(market, chance):
    """A change to what a market can have; some buyer may wish nothing then."""
    amounts, purses, wishes = market
    buyer, good = chance.randrange(len(purses)), chance.randrange(len(amounts))
    word = chance.choice(["purse", "purse", "amount", "wish"])
    if word == "purse":
        return (word, buyer, new_purse(purses[buyer], chance))
    if word == "amount":
        return (word, good, chance.choice([amounts[good], 1, 60, chance.randint(1, 60), chance.randint(1, 4)]))
    numbers = [wishes[buyer][good], 0, 0, 1, 100, chance.randint(0, 100), chance.randint(1, 4)]
    return (word, buyer, good, chance.choice(numbers))


def changed(market, change):
    """The market behind a change."""
    first = {"amount": 0, "purse": 1, "wish": 2}[change[0]]
    return with_part(market, (first,) + change[1:-1], change[-1])


def some_change(market, chance):
    """A change behind which each buyer still wishes something."""
    while True:
        change = any_change(market, chance)
        if all_wish(changed(market, change)):
            return change


# None of these can be set in a market as a purse, as an amount, as a wish.
WRONG_PURSES = NO_FRACTIONS + ODD_THINGS + [
    (0, 1), (-1, 1), (-1, 2), (MILLION + 1, 1), (1, MILLION + 1), (MILLION + 1, MILLION), (MILLION, MILLION + 1),
    (LARGEST, 1), (1, LARGEST), (LARGEST, LARGEST - 1), (MILLION, MILLION), (MILLION, 2), (3, 6), ("1", "1"),
    (None, None), ((1, 1), (1, 1)), ((1, 1),), [(1, 1)], "1/1"]
WRONG_AMOUNTS = [0, 61, 62, -1, -60, MILLION, LARGEST, -LARGEST, True, False, None, "", "1", "60", [], [1], (), (1,),
                 (1, 1), [1, 1], ((1, 1),), [[1]], "amount"]
WRONG_WISHES = [101, 102, -1, -100, MILLION, LARGEST, -LARGEST, True, False, None, "", "0", "1", "100", [], [0], (),
                (0,), (1,), (0, 1), (1, 1), [1, 1], ((1, 1),), [[1]], "wish"]


# Dealings.

def any_dealing(market, chance, all_dealt=False):
    """A dealing of no more of each good than there is, as tuples; free goods may be dealt, too."""
    columns = []
    for amount in market[0]:
        most = chance.choice([1, 4, 10 ** 9, 10 ** 50])
        weights = [chance.choice([0, chance.randint(0, most)]) for _ in market[1]]
        left = 0 if all_dealt or chance.random() < 0.3 else chance.randint(0, most)
        if not any(weights):
            weights[chance.randrange(len(weights))] = 1
        columns.append([Fraction(amount * weight, sum(weights) + left) for weight in weights])
    return tuple(pairs(column[buyer] for column in columns) for buyer in range(len(market[1])))


def worth(wishes, got):
    return sum((wish * value(part) for wish, part in zip(wishes, got)), Fraction(0))


def wrong_dealings(market, dealing):
    """Things that are no dealing of a market of two goods and two buyers at least: a dealing spoilt at any place."""
    for path in places(dealing):
        for thing in ODD_THINGS + NO_FRACTIONS:
            # A lone number may be right in its place.
            if len(path) < 3 or type(thing) is not int:
                yield with_part(dealing, path, thing)
        part = part_at(dealing, path)
        if isinstance(part, tuple):
            for thing in [list(part), part[:-1], part[1:], part + part[-1:], part + (None,), (part,), (),
                          part + ((0, 1),), part + (((0, 1),) * len(market[0]),)]:
                yield with_part(dealing, path, thing)
    for good, amount in enumerate(market[0]):
        for buyer, row in enumerate(dealing):
            others = sum(value(each[good]) for each in dealing) - value(row[good])
            for much in [amount - others + Fraction(1, LARGEST), amount + 1, Fraction(LARGEST), Fraction(-1),
                         Fraction(-1, LARGEST)]:
                yield with_part(dealing, (buyer, good), pair(much))
