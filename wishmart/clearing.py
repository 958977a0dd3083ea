"""Clearing: the prices at which all is sold and spent, and a dealing that shows it."""

from wishmart.dealings import got_in_all, is_dealing, worths_of
from wishmart.fractions import fraction, times, total
from wishmart.markets import wished
from wishmart.prices import best_goods
from wishmart.rises import first_prices, prices_behind, rises
from wishmart.sets import in_coins


def clear(market):
    """Tell (prices, dealing): the prices that clear, and a dealing that shows them."""
    prices = prices_that_clear(market)
    return (prices, dealing_at(market, prices))


def prices_that_clear(market):
    """Tell the prices behind the last of the rises from the first prices."""
    first = first_prices(market)
    return prices_behind(first, rises(market, first))


def dealing_at(market, prices):
    """Tell a dealing that shows prices that clear."""
    money, purses = in_coins(market, prices)
    return dealing_by(market, money, spend(best_goods(market, prices), money, purses))


def dealing_by(market, money, spent):
    """Tell the dealing where each buyer has spent so many coins on each good."""
    return tuple([
        tuple([pieces_for(row[good], money[good], amount) for good, amount in enumerate(market[0])])
        for row in spent
    ])


def pieces_for(coins, money, amount):
    """Tell how much of a good some coins buy, where its whole money buys its amount."""
    # A free good has no money at all, and nothing is spent on it.
    return fraction(coins * amount, money) if coins > 0 else (0, 1)


def spend(best, money, purses):
    """Tell how many coins each buyer spends on each good, so that all purses and all money are used up."""
    spent = [[0 for coins in money] for purse in purses]
    unsold = list(money)
    for buyer, purse in enumerate(purses):
        left = purse
        while left > 0:
            way = way_to_unsold(best, spent, unsold, buyer)
            coins = most_along(way, spent, unsold, left)
            send_along(way, spent, coins)
            unsold[way[-1][1]] -= coins
            left -= coins
    return spent


def way_to_unsold(best, spent, unsold, buyer):
    """Tell a shortest way by which the buyer can spend more: a list of pairs (buyer, good).

    Each buyer of the way spends more on its good and, but the first one, less on the good of the pair ahead;
    the last good is not yet sold out.
    """
    # Shortest ways, because with these only few are needed however great the purses are. There always is a
    # way, for at prices that clear any spending that leaves something over can be added to.
    ways = [[(buyer, good)] for good in best[buyer]]
    met = {good: True for good in best[buyer]}
    at = 0
    while unsold[ways[at][-1][1]] == 0:
        last = ways[at][-1][1]
        for payer in range(len(spent)):
            if spent[payer][last] > 0:
                for good in best[payer]:
                    if good not in met:
                        met[good] = True
                        ways.append(ways[at] + [(payer, good)])
        at += 1
    return ways[at]


def most_along(way, spent, unsold, left):
    """Tell how many coins at most can be sent along a way."""
    bounds = [spent[payer][way[at][1]] for at, (payer, good) in enumerate(way[1:])]
    return min(bounds + [unsold[way[-1][1]], left])


def send_along(way, spent, coins):
    """Spend more coins along a way."""
    for at, (payer, good) in enumerate(way):
        spent[payer][good] += coins
        if at > 0:
            spent[payer][way[at - 1][1]] -= coins


def shows(market, prices, dealing):
    """Tell of anything whether it is a dealing that shows these prices."""
    best = best_goods(market, prices)
    if not is_dealing(market, dealing):
        return False
    return sells_all(market, dealing) and gives_best(best, dealing) and spends_all(market, prices, dealing)


def sells_all(market, dealing):
    """Tell whether all of each wished good is got, and nothing of a free one."""
    goods = wished(market)
    return all([
        got_in_all(dealing, good) == ((amount, 1) if good in goods else (0, 1))
        for good, amount in enumerate(market[0])
    ])


def gives_best(best, dealing):
    """Tell whether each buyer gets only goods that are best for it."""
    return all([
        part[0] == 0 or good in best[buyer]
        for buyer, row in enumerate(dealing)
        for good, part in enumerate(row)
    ])


def spends_all(market, prices, dealing):
    """Tell whether what each buyer gets comes just to its purse."""
    return all([
        total([times(part, price) for part, price in zip(row, prices)]) == purse
        for row, purse in zip(dealing, market[1])
    ])


def worths(market):
    """Tell the worths of the dealing that is told with the prices that clear."""
    return worths_of(market, clear(market)[1])
