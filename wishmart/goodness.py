"""How good a dealing is: who would rather have what another one gets, and what is gained by it."""

from wishmart.dealings import got_in_all, is_dealing, worth_of, worths_of
from wishmart.errors import NoDealing
from wishmart.fractions import less, minus, over, times, total


def rather(market, dealing):
    """Tell the pairs (buyer, other) where the buyer would rather have what the other one gets."""
    need_dealing(market, dealing)
    buyers = list(range(len(dealing)))
    return [(buyer, other) for buyer in buyers for other in buyers if would_rather(market, dealing, buyer, other)]


def need_dealing(market, thing):
    """Refuse what is no dealing of the market, and one of more than there is."""
    if not is_dealing(market, thing) or deals_too_much(market, thing):
        raise NoDealing("this is no dealing of the market")


def deals_too_much(market, dealing):
    """Tell whether more is got of some good than there are pieces."""
    return any([less((amount, 1), got_in_all(dealing, good)) for good, amount in enumerate(market[0])])


def would_rather(market, dealing, buyer, other):
    """Tell whether a buyer would rather have what the other one gets, each reckoned by its purse."""
    return less(worth_by_purse(market, dealing, buyer, buyer), worth_by_purse(market, dealing, buyer, other))


def worth_by_purse(market, dealing, buyer, other):
    """Tell the worth to a buyer of what the other one gets, divided by the other one's purse."""
    return over(worth_of(market[2][buyer], dealing[other]), market[1][other])


def gain(market, dealing, other):
    """Tell the gain of a dealing over another one; where that is worth nothing to a buyer it is refused."""
    need_dealing(market, dealing)
    need_dealing(market, other)
    # Divided by a worth of nothing it is refused with NoNumber.
    parts = [
        times(purse, over(worth, ahead))
        for purse, worth, ahead in zip(market[1], worths_of(market, dealing), worths_of(market, other))
    ]
    return minus(total(parts), total(market[1]))
