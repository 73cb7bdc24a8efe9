"""Bundles: whole numbers whose bits say which things are in them."""

from gavelhall.errors import NoBundle
from gavelhall.wholes import is_within


def bundle_of(numbers):
    bundle = 0
    for number in numbers:
        if not is_within(number, 0, 5):
            raise NoBundle("the things of a bundle are told by whole numbers from 0 to 5")
        if holds(bundle, 1 << number):
            raise NoBundle("a thing is told for a bundle just once")
        bundle = bundle | (1 << number)
    return bundle


def things_in(bundle):
    return [number for number in range(bundle.bit_length()) if holds(bundle, 1 << number)]


def size_of(bundle):
    return len(things_in(bundle))


def holds(one, other):
    return (one & other) == other


def apart(one, other):
    return (one & other) == 0


def parts_of(bundle):
    parts = [0]
    for number in things_in(bundle):
        # Each part so far lies below this thing's bit, so the longer list rises too.
        parts = parts + [part | (1 << number) for part in parts]
    return parts


def cost_of(bundle, prices):
    return sum([prices[number] for number in things_in(bundle)])
