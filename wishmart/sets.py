"""Sets of goods that are too dear or paid up, and of buyers that are too rich."""

from wishmart.errors import Dear
from wishmart.fractions import on_one_bottom
from wishmart.markets import wished
from wishmart.prices import best_goods, money_by_good, takers_by_best


def all_sets(members):
    """Tell all sets of the members, the empty one first, each in the order of the members."""
    sets = [()]
    for member in members:
        sets = sets + [some + (member,) for some in sets]
    return sets


def in_coins(market, prices):
    """Tell the money of each good and each purse, as whole numbers of one coin."""
    # Sets are gone through by the dozen, and whole numbers are added and compared far faster than fractions.
    coins = on_one_bottom(money_by_good(market, prices) + list(market[1]))
    goods = len(market[0])
    return (coins[:goods], coins[goods:])


def coins_of(coins, some):
    """Tell how many coins those of some numbers have in all."""
    return sum([coins[number] for number in some])


def goods_above(market, prices):
    """Tell for each set of wished goods by how many coins its money is above its takers' purses."""
    best = best_goods(market, prices)
    money, purses = in_coins(market, prices)
    return {
        some: coins_of(money, some) - coins_of(purses, takers_by_best(best, some))
        for some in all_sets(wished(market))
    }


def buyers_above(best, money, purses):
    """Tell for each set of buyers by how many coins its purses are above the money of its best goods."""
    return {
        some: coins_of(purses, some) - coins_of(money, goods_by_best(best, some))
        for some in all_sets(list(range(len(purses))))
    }


def goods_by_best(best, buyers):
    """Tell the goods that are best for one of these buyers at least."""
    return sorted({good for buyer in buyers for good in best[buyer]})


def least_of_most(above):
    """Tell the least of the sets that are above by most."""
    most = max(above.values())
    # The sets that are above by most have the least one within all others: it alone has so few members.
    return min([some for some in above if above[some] == most], key=len)


def dear_goods(market, prices):
    """Tell the goods that are too dear by most, () where none are."""
    return least_of_most(goods_above(market, prices))


def rich_buyers(market, prices):
    """Tell the buyers that are too rich by most, () where none are."""
    best = best_goods(market, prices)
    money, purses = in_coins(market, prices)
    return least_of_most(buyers_above(best, money, purses))


def paid_goods(market, prices):
    """Tell the greatest set of goods that is paid up; where goods are dear it is refused with Dear."""
    above = goods_above(market, prices)
    if max(above.values()) > 0:
        raise Dear("some goods are too dear at these prices")
    # Where no goods are dear, sets that are paid up are so together: one has all others within it.
    return max([some for some in above if above[some] == 0], key=len)
