"""Prices of a market: what goods come to, and which are best for whom."""

from wishmart.errors import NoPrices
from wishmart.fractions import greatest, is_fraction, over, times, total
from wishmart.markets import wished


def are_prices(market, thing):
    """Tell of anything whether it is prices of the market."""
    if not isinstance(thing, tuple) or len(thing) != len(market[0]):
        return False
    if not all([is_fraction(part) for part in thing]):
        return False
    goods = wished(market)
    return all([price[0] > 0 if good in goods else price[0] == 0 for good, price in enumerate(thing)])


def need_prices(market, thing):
    """Refuse what is no prices of the market."""
    if not are_prices(market, thing):
        raise NoPrices("these are no prices of the market")


def money_of(market, prices, goods):
    """Tell the money of some goods: all their pieces at their prices."""
    need_prices(market, prices)
    money = money_by_good(market, prices)
    return total([money[good] for good in goods])


def money_by_good(market, prices):
    """Tell for each good the price of all its pieces."""
    return [times((amount, 1), price) for amount, price in zip(market[0], prices)]


def best_goods(market, prices):
    """Tell for each buyer the goods that are best for it."""
    need_prices(market, prices)
    return tuple([best_by_wishes(row, prices) for row in market[2]])


def best_by_wishes(row, prices):
    """Tell the goods that are best at the prices for a buyer with this row of wishes."""
    rates = {good: rate(wish, prices[good]) for good, wish in enumerate(row) if wish > 0}
    if not rates:
        return ()
    most = greatest(list(rates.values()))
    return tuple([good for good in rates if rates[good] == most])


def rate(wish, price):
    """Tell how much worth one unit of money buys of a good that is wished so much."""
    # A good that somebody wishes never has the price nought, by which nothing can be divided.
    return over((wish, 1), price)


def takers(market, prices, goods):
    """Tell the buyers for whom one of these goods at least is best."""
    return takers_by_best(best_goods(market, prices), goods)


def takers_by_best(best, goods):
    """Tell the takers of some goods, by the best goods of each buyer."""
    return tuple([buyer for buyer, row in enumerate(best) if any([good in goods for good in row])])
