"""Stretches: how far prices rise together while one purse grows."""

from wishmart.clearing import prices_that_clear
from wishmart.fractions import least, minus, plus, times
from wishmart.markets import need_buyer, wished
from wishmart.prices import best_goods, money_of
from wishmart.rises import loosened, meeting_factors, paying_factors
from wishmart.sets import goods_above


def stretch(market, buyer):
    """Tell ("rise", goods, purse): which goods rise while the buyer's purse grows, and to which purse, or None."""
    need_buyer(market, buyer)
    prices = prices_that_clear(market)
    still = still_goods(market, prices, buyer)
    rising = tuple([good for good in wished(market) if good not in still])
    factors = ending_factors(market, prices, buyer, still, rising)
    return ("rise", rising, purse_at(market, prices, buyer, rising, least(factors)) if factors else None)


def still_goods(market, prices, buyer):
    """Tell the greatest set of goods that is paid up without this buyer among its takers."""
    mine = best_goods(market, prices)[buyer]
    above = goods_above(market, prices)
    # Sets that are paid up are so together, at prices that clear: one has all others within it.
    return max([
        some for some in above
        if above[some] == 0 and not any([good in mine for good in some])
    ], key=len)


def ending_factors(market, prices, buyer, still, rising):
    """Tell all factors of the prices at which something happens that may end the stretch."""
    best = best_goods(market, prices)
    loose = loosened(best, still)
    # The buyer is among the takers of a set just where one of its best goods is in it.
    foreign = [good for good in rising if good not in best[buyer]]
    return paying_factors(market, prices, loose, foreign) + meeting_factors(market, prices, loose, still)


def purse_at(market, prices, buyer, rising, factor):
    """Tell the purse of the buyer when the goods that rise have come to so many times their prices."""
    grown = times(minus(factor, (1, 1)), money_of(market, prices, rising))
    return plus(market[1][buyer], grown)
