"""Whole numbers: ints that are no truths."""


def is_whole(thing):
    # To Python a truth is an int as well; to the hall it is no number.
    return isinstance(thing, int) and not isinstance(thing, bool)


def divisor(one, other):
    greater = abs(one)
    lesser = abs(other)
    while lesser > 0:
        rest = greater % lesser
        greater = lesser
        lesser = rest
    return greater


def is_within(thing, least, most):
    return is_whole(thing) and least <= thing <= most
