"""Rises: how prices that can be paid come to higher ones that can be paid."""

from wishmart.errors import Unwished
from wishmart.fractions import fraction, greatest, least, over, times
from wishmart.markets import wished, wishless
from wishmart.prices import best_goods, rate, takers_by_best
from wishmart.sets import all_sets, coins_of, in_coins, paid_goods


def rise(market, prices):
    """Tell the rise (paid, factor, prices behind) of prices that can be paid, or None."""
    paid = paid_goods(market, prices)
    rising = tuple([good for good in wished(market) if good not in paid])
    if not rising:
        return None
    best = best_goods(market, prices)
    paying = paying_factors(market, prices, loosened(best, paid), rising)
    meeting = meeting_factors(market, prices, loosened(best, paid), paid)
    factor = least(paying + meeting)
    return (paid, factor, raised(prices, rising, factor))


def loosened(best, paid):
    """Tell for each buyer its best goods, but () for one that takes a paid good."""
    # As soon as the others rise such a buyer takes paid goods only.
    return tuple([() if any([good in paid for good in row]) else row for row in best])


def paying_factors(market, prices, loose, rising):
    """Tell for each set of goods that rise the factor at which its loose takers just pay it up."""
    # Each of these is above 1: otherwise the set would be paid up, or too dear, along with the paid goods.
    money, purses = in_coins(market, prices)
    return [
        fraction(coins_of(purses, takers_by_best(loose, some)), coins_of(money, some))
        for some in all_sets(rising) if some
    ]


def meeting_factors(market, prices, loose, paid):
    """Tell for each loose buyer and each paid good that it wishes the factor at which that good is best, too."""
    # Each of these is above 1: no paid good is best yet for a loose buyer.
    return [
        over(rate(row[best[0]], prices[best[0]]), rate(row[good], prices[good]))
        for row, best in zip(market[2], loose) if best
        for good in paid if row[good] > 0
    ]


def raised(prices, rising, factor):
    """Tell the prices when those of the goods that rise are multiplied by the factor."""
    return tuple([times(price, factor) if good in rising else price for good, price in enumerate(prices)])


def first_prices(market):
    """Tell the prices that a market's rises begin from."""
    if wishless(market) is not None:
        raise Unwished("a buyer of this market wishes nothing")
    amounts, purses, wishes = market
    pieces = sum([amounts[good] for good in wished(market)])
    even = over(least(purses), (pieces, 1))
    return tuple([times(even, greatest_share(wishes, good)) for good in range(len(amounts))])


def greatest_share(wishes, good):
    """Tell the greatest part that the wish for this good is, for some buyer, of that buyer's greatest wish."""
    # At even prices a good is best for a buyer just where this part is 1. Otherwise it comes to be best for
    # that buyer at this part of the even price, and no sooner for another one. For a free good it is nought.
    return greatest([fraction(row[good], max(row)) for row in wishes])


def rises(market, prices):
    """Tell the rises from these prices, one behind the other, till there is none."""
    told = []
    step = rise(market, prices)
    while step is not None:
        told.append(step)
        step = rise(market, step[2])
    return told


def prices_behind(prices, told):
    """Tell the prices behind the last of some rises from prices, these themselves where there is none."""
    return told[-1][2] if told else prices
