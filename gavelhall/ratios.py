"""Ratios: exact fractions, as tuples (top, bottom) with a bottom from 1 on."""

from gavelhall.errors import NoNumber
from gavelhall.wholes import divisor, is_whole


def is_ratio(thing):
    if not isinstance(thing, tuple) or len(thing) != 2:
        return False
    return is_whole(thing[0]) and is_whole(thing[1]) and thing[1] >= 1


def ratio_of(top, bottom=1):
    if not is_whole(top) or not is_whole(bottom):
        raise NoNumber("a ratio is made of two whole numbers")
    if bottom == 0:
        raise NoNumber("nothing can be divided by nought")
    common = divisor(top, bottom)
    if bottom < 0:
        # Dividing both by a number below 0 brings the bottom above 0 and keeps the ratio.
        common = -common
    return (top // common, bottom // common)


def plus(one, other):
    return ratio_of(one[0] * other[1] + other[0] * one[1], one[1] * other[1])


def minus(one, other):
    return ratio_of(one[0] * other[1] - other[0] * one[1], one[1] * other[1])


def times(one, other):
    return ratio_of(one[0] * other[0], one[1] * other[1])


def total_of(ratios):
    total = ratio_of(0)
    for one in ratios:
        total = plus(total, one)
    return total


def under(one, other):
    # Bottoms are above 0, so multiplying both sides by them keeps the order.
    return one[0] * other[1] < other[0] * one[1]


def whole_and_rest(one):
    # Python's // goes down below nought too, so the rest is never below 0.
    whole = one[0] // one[1]
    return (whole, ratio_of(one[0] - whole * one[1], one[1]))


def written(one):
    lowest = ratio_of(one[0], one[1])
    top = lowest[0]
    bottom = lowest[1]
    if bottom == 1:
        return str(top)
    return f"{top}/{bottom}"
