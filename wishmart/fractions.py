"""Exact fractions: tuples (top, bottom) in lowest terms, the bottom from 1 on."""

from wishmart.errors import NoNumber


def is_whole(thing):
    """Tell of anything whether it is a whole number."""
    # Python counts True and False among the ints; here they are no numbers.
    return isinstance(thing, int) and not isinstance(thing, bool)


def is_fraction(thing):
    """Tell of anything whether it is a fraction."""
    if not isinstance(thing, tuple) or len(thing) != 2:
        return False
    top, bottom = thing
    if not is_whole(top) or not is_whole(bottom):
        return False
    return bottom >= 1 and common_divisor(top, bottom) == 1


def common_divisor(one, other):
    """Tell the greatest common divisor of two whole numbers, of either sign, not both 0."""
    while other != 0:
        one, other = other, one % other
    return abs(one)


def fraction(top, bottom):
    """Tell the fraction that is top divided by bottom."""
    if bottom == 0:
        raise NoNumber("nothing can be divided by nought")
    divisor = common_divisor(top, bottom)
    # A divisor with the sign of the bottom makes the new bottom positive.
    if bottom < 0:
        divisor = -divisor
    return (top // divisor, bottom // divisor)


def plus(one, other):
    """Tell the sum of two fractions."""
    return fraction(one[0] * other[1] + other[0] * one[1], one[1] * other[1])


def minus(one, other):
    """Tell one fraction less the other."""
    return fraction(one[0] * other[1] - other[0] * one[1], one[1] * other[1])


def times(one, other):
    """Tell the product of two fractions."""
    return fraction(one[0] * other[0], one[1] * other[1])


def over(one, other):
    """Tell one fraction divided by the other; by nought it is refused with NoNumber."""
    # Only where the other is nought is the bottom 0 here, which fraction refuses.
    return fraction(one[0] * other[1], one[1] * other[0])


def less(one, other):
    """Tell whether one fraction is below the other."""
    return one[0] * other[1] < other[0] * one[1]


def total(parts):
    """Tell the sum of some fractions; of none it is nought."""
    whole = (0, 1)
    for part in parts:
        whole = plus(whole, part)
    return whole


def least(parts):
    """Tell the least of some fractions, one at least."""
    found = parts[0]
    for part in parts:
        if less(part, found):
            found = part
    return found


def greatest(parts):
    """Tell the greatest of some fractions, one at least."""
    found = parts[0]
    for part in parts:
        if less(found, part):
            found = part
    return found


def on_one_bottom(parts):
    """Tell the tops that some fractions have where all are written with one bottom, the least."""
    bottom = 1
    for part in parts:
        bottom = bottom // common_divisor(bottom, part[1]) * part[1]
    return [part[0] * (bottom // part[1]) for part in parts]
