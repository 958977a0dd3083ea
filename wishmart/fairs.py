"""Fairs: markets that change, and their prices."""

from wishmart.errors import NoMarket, NoNumber, Nothing
from wishmart.fractions import less
from wishmart.markets import is_amount, is_market, is_purse, is_wish, need_buyer, need_good
from wishmart.rises import first_prices, prices_behind, rises


class Fair:
    """A market that changes, with the prices that clear."""

    def __init__(self, market):
        if not is_market(market):
            raise NoMarket("a fair is made of a market")
        # The very first state, and one for each change that stands: going back is dropping the last one.
        self.states = [state_from(market, first_prices(market))]

    def purse(self, buyer, money):
        """Set a buyer's purse."""
        amounts, purses, wishes = self.market()
        need_buyer(self.market(), buyer)
        need_number(is_purse(money))
        self.go_on((amounts, put(purses, buyer, money), wishes))

    def amount(self, good, number):
        """Set how many pieces there are of a good."""
        amounts, purses, wishes = self.market()
        need_good(self.market(), good)
        need_number(is_amount(number))
        self.go_on((put(amounts, good, number), purses, wishes))

    def wish(self, buyer, good, number):
        """Set a buyer's wish for a good."""
        amounts, purses, wishes = self.market()
        need_buyer(self.market(), buyer)
        need_good(self.market(), good)
        need_number(is_wish(number))
        self.go_on((amounts, purses, put(wishes, buyer, put(wishes[buyer], good, number))))

    def back(self):
        """Undo the last change that stands."""
        if len(self.states) == 1:
            raise Nothing("there is no change to undo")
        self.states.pop()

    def market(self):
        """Tell the market as it is."""
        return self.states[-1][0]

    def prices(self):
        """Tell the prices that clear."""
        return self.states[-1][1]

    def last_rises(self):
        """Tell the rises of the last change that stands, or those from the very first prices."""
        return list(self.states[-1][2])

    def go_on(self, market):
        """Change to a market that is as this one but for one number at most."""
        self.states.append(state_from(market, start_for(market, self.market(), self.prices())))


def need_number(fits):
    """Refuse what does not fit where it is to be set."""
    if not fits:
        raise NoNumber("a market has no such number there")


def put(parts, at, part):
    """Tell the same parts, but for another one at this place."""
    return parts[:at] + (part,) + parts[at + 1:]


def start_for(market, ahead, prices):
    """Tell the prices from which a market's rises begin that was just ahead another one with these prices."""
    # Where nothing is changed the prices clear as they are, and there are no rises from them.
    if market == ahead or has_grown_purse(market, ahead):
        return prices
    return first_prices(market)


def has_grown_purse(market, ahead):
    """Tell whether a buyer has more in its purse than it had ahead."""
    return any([less(one, other) for one, other in zip(ahead[1], market[1])])


def state_from(market, start):
    """Tell a state of a fair: the market, the prices that clear, and the rises from the start to these."""
    told = rises(market, start)
    return (market, prices_behind(start, told), told)
