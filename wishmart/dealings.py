"""Dealings: how much of each good each buyer gets."""

from wishmart.fractions import is_fraction, times, total


def is_dealing(market, thing):
    """Tell of anything whether it has the form of a dealing of the market."""
    if not isinstance(thing, tuple) or len(thing) != len(market[1]):
        return False
    return all([is_dealt_row(row, len(market[0])) for row in thing])


def is_dealt_row(thing, goods):
    """Tell of anything whether it can be what one buyer gets of that many goods."""
    if not isinstance(thing, tuple) or len(thing) != goods:
        return False
    return all([is_fraction(part) and part[0] >= 0 for part in thing])


def got_in_all(dealing, good):
    """Tell how much of a good all buyers get."""
    return total([row[good] for row in dealing])


def worth_of(wishes, got):
    """Tell the worth of what a buyer gets, by its wishes."""
    return total([times((wish, 1), part) for wish, part in zip(wishes, got)])


def worths_of(market, dealing):
    """Tell for each buyer the worth of what it gets."""
    return tuple([worth_of(row, got) for row, got in zip(market[2], dealing)])
