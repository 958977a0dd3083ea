"""Markets: tuples (amounts, purses, wishes)."""

from wishmart.errors import NoBuyer, NoGood
from wishmart.fractions import is_fraction, is_whole

MOST_GOODS = 6
MOST_BUYERS = 6
MOST_PIECES = 60
MOST_WISH = 100
MOST_IN_PURSE = 1000000


def is_market(thing):
    """Tell of anything whether it is a market."""
    if not isinstance(thing, tuple) or len(thing) != 3:
        return False
    amounts, purses, wishes = thing
    if not are_amounts(amounts) or not are_purses(purses):
        return False
    return are_wishes(wishes, len(purses), len(amounts))


def are_amounts(thing):
    """Tell of anything whether it can be the amounts of a market."""
    if not isinstance(thing, tuple) or not 1 <= len(thing) <= MOST_GOODS:
        return False
    return all([is_amount(part) for part in thing])


def are_purses(thing):
    """Tell of anything whether it can be the purses of a market."""
    if not isinstance(thing, tuple) or not 1 <= len(thing) <= MOST_BUYERS:
        return False
    return all([is_purse(part) for part in thing])


def are_wishes(thing, buyers, goods):
    """Tell of anything whether it can be the wishes of that many buyers for that many goods."""
    if not isinstance(thing, tuple) or len(thing) != buyers:
        return False
    return all([is_wish_row(row, goods) for row in thing])


def is_wish_row(thing, goods):
    """Tell of anything whether it can be one buyer's wishes for that many goods."""
    if not isinstance(thing, tuple) or len(thing) != goods:
        return False
    return all([is_wish(part) for part in thing])


def is_amount(thing):
    """Tell of anything whether a market can have it as an amount."""
    return is_whole(thing) and 1 <= thing <= MOST_PIECES


def is_purse(thing):
    """Tell of anything whether a market can have it as a purse."""
    if not is_fraction(thing):
        return False
    top, bottom = thing
    return 1 <= top <= MOST_IN_PURSE and bottom <= MOST_IN_PURSE


def is_wish(thing):
    """Tell of anything whether a market can have it as a wish."""
    return is_whole(thing) and 0 <= thing <= MOST_WISH


def wished(market):
    """Tell the goods that some buyer wishes; all others are free."""
    amounts, purses, wishes = market
    return tuple([good for good in range(len(amounts)) if any([row[good] > 0 for row in wishes])])


def wishless(market):
    """Tell the least buyer that wishes nothing, or None."""
    for buyer, row in enumerate(market[2]):
        if not any(row):
            return buyer
    return None


def need_buyer(market, number):
    """Refuse what is no buyer's number."""
    if not is_whole(number) or not 0 <= number < len(market[1]):
        raise NoBuyer("the market has no buyer of this number")


def need_good(market, number):
    """Refuse what is no good's number."""
    if not is_whole(number) or not 0 <= number < len(market[0]):
        raise NoGood("the market has no good of this number")
