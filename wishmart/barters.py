"""Barters: hands bring goods in place of purses."""

from wishmart.clearing import shows
from wishmart.errors import NoPrices
from wishmart.fractions import is_whole, times, total
from wishmart.markets import MOST_BUYERS, MOST_GOODS, MOST_WISH
from wishmart.prices import need_prices

MOST_BROUGHT = 10


def is_barter(thing):
    """Tell of anything whether it is a barter."""
    if not isinstance(thing, tuple) or len(thing) != 2:
        return False
    brought, wishes = thing
    if not is_table(brought, MOST_BROUGHT) or not is_table(wishes, MOST_WISH):
        return False
    if len(brought) != len(wishes) or len(brought[0]) != len(wishes[0]):
        return False
    return leaves_none_out(brought) and leaves_none_out(wishes)


def is_table(thing, most):
    """Tell of anything whether it has for each of some hands a row of as many numbers up to the most."""
    if not isinstance(thing, tuple) or not 1 <= len(thing) <= MOST_BUYERS:
        return False
    return all([is_row(row, most) for row in thing]) and all([len(row) == len(thing[0]) for row in thing])


def is_row(thing, most):
    """Tell of anything whether it has for each of some goods a number up to the most."""
    if not isinstance(thing, tuple) or not 1 <= len(thing) <= MOST_GOODS:
        return False
    return all([is_whole(number) and 0 <= number <= most for number in thing])


def leaves_none_out(table):
    """Tell whether each hand has a number above 0, and each good."""
    return all([any(row) for row in table]) and all([any(column) for column in columns(table)])


def columns(table):
    """Tell for each good its numbers, one for each hand."""
    return [[row[good] for row in table] for good in range(len(table[0]))]


def market_at(barter, prices):
    """Tell the market that a barter is at prices; what is none above nought for all goods is refused."""
    brought, wishes = barter
    amounts = tuple([sum(column) for column in columns(brought)])
    # Prices hang on no purses, and are above nought for all goods here, for each good of a barter is wished.
    need_prices((amounts, (), wishes), prices)
    return (amounts, tuple([money_for(row, prices) for row in brought]), wishes)


def money_for(numbers, prices):
    """Tell what so many pieces of each good come to."""
    return total([times((number, 1), price) for number, price in zip(numbers, prices)])


def lets_by(barter, prices, dealing):
    """Tell of anything as prices and dealing whether they are let by for the barter."""
    try:
        market = market_at(barter, prices)
    except NoPrices:
        return False
    return shows(market, prices, dealing)


def barred(barter):
    """Tell (hands, good), a set of hands that bars the barter and the good by which it does, or None."""
    # If any set that is shut in bars the barter, then so does the least one that has in it a hand bringing the good
    # that nobody wishes there: it lies within that set.
    for hand in range(len(barter[0])):
        hands = shut_in_with(barter, hand)
        goods = goods_only_brought(barter, hands)
        if goods:
            return (hands, goods[0])
    return None


def shut_in_with(barter, hand):
    """Tell the least set of hands that is shut in and has this one in it."""
    brought, wishes = barter
    found = [hand]
    at = 0
    while at < len(found):
        needed = wishes[found[at]]
        found.extend([
            other for other, row in enumerate(brought)
            if other not in found and brings_wished(row, needed)
        ])
        at += 1
    return tuple(sorted(found))


def brings_wished(brought, wishes):
    """Tell whether a hand that brings these numbers brings a good that is wished so."""
    return any([number > 0 and wish > 0 for number, wish in zip(brought, wishes)])


def goods_only_brought(barter, hands):
    """Tell the goods that one of these hands brings and none of them wishes."""
    brought, wishes = barter
    return [
        good for good in range(len(brought[0]))
        if any([brought[hand][good] > 0 for hand in hands]) and not any([wishes[hand][good] > 0 for hand in hands])
    ]
