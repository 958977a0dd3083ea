"""Pieces: dealings in whole pieces, with less than one piece lost by anybody."""

from wishmart.clearing import dealing_by, prices_that_clear, spend
from wishmart.dealings import worth_of
from wishmart.fractions import less
from wishmart.prices import best_goods
from wishmart.sets import buyers_above, in_coins


def whole(market):
    """Tell (dealing, lost): a dealing in whole pieces, and for each buyer None or a good of which it lacks a part."""
    prices = prices_that_clear(market)
    money, purses = in_coins(market, prices)
    spent = spend(needed_goods(best_goods(market, prices), money, purses), money, purses)
    holders, hung = hang_up(spent)
    dealing = whole_pieces(market, money, spent, holders)
    exact = dealing_by(market, money, spent)
    lost = [
        hung[buyer] if lacks(row, dealing[buyer], exact[buyer]) else None
        for buyer, row in enumerate(market[2])
    ]
    return (dealing, tuple(lost))


def needed_goods(best, money, purses):
    """Tell for each buyer as few of its best goods as will do for all purses to be spent on them."""
    # Of these none can be done without, so there is no ring of buyers and goods, each buyer spending on the goods
    # beside it: along a ring coins could be moved round till one of its buyers spends nothing on a good any more.
    kept = best
    for buyer, goods in enumerate(best):
        for good in goods:
            fewer = without(kept, buyer, good)
            if max(buyers_above(fewer, money, purses).values()) == 0:
                kept = fewer
    return kept


def without(best, buyer, good):
    """Tell the same goods for each buyer, but for one of them that this buyer has no more."""
    return tuple([
        tuple([each for each in row if each != good]) if at == buyer else row
        for at, row in enumerate(best)
    ])


def hang_up(spent):
    """Tell two dicts: for each good that is spent on its holder, and for each buyer the good it hangs on, or None.

    A holder hangs on another good than those it holds, and all others that spend on a good hang on it.
    """
    # Without rings the buyers and goods are trees, here hung up each by its least buyer.
    holders = {}
    hung = {}
    for buyer in range(len(spent)):
        if buyer not in hung:
            hung[buyer] = None
            waiting = [buyer]
            while waiting:
                waiting.extend(hang_below(spent, waiting.pop(), holders, hung))
    return (holders, hung)


def hang_below(spent, holder, holders, hung):
    """Hang up all goods that hang on this buyer, and all buyers that hang on these; tell these buyers."""
    below = []
    for good, coins in enumerate(spent[holder]):
        if coins > 0 and good not in holders:
            holders[good] = holder
            for buyer, row in enumerate(spent):
                if row[good] > 0 and buyer != holder:
                    hung[buyer] = good
                    below.append(buyer)
    return below


def whole_pieces(market, money, spent, holders):
    """Tell the dealing by which each buyer gets what whole pieces it has paid, and holders all that is left."""
    # So a holder gets no less than it has paid, and each buyer less than one piece less of the good it hangs on.
    columns = [
        shared_out(amount, money[good], [row[good] for row in spent], holders[good])
        if good in holders else [0 for row in spent]
        for good, amount in enumerate(market[0])
    ]
    return tuple([tuple([column[buyer] for column in columns]) for buyer in range(len(spent))])


def shared_out(amount, money, coins, holder):
    """Tell for each buyer the whole pieces it gets of one good."""
    pieces = [part * amount // money for part in coins]
    pieces[holder] += amount - sum(pieces)
    return pieces


def lacks(wishes, pieces, exact):
    """Tell whether so many pieces are worth less to a buyer with these wishes than its exact parts."""
    return less(worth_of(wishes, [(number, 1) for number in pieces]), worth_of(wishes, exact))
