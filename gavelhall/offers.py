"""Offers: the least bundles of what a list of worths tells, as tuples (bundle, amount)."""

from gavelhall.bundles import holds, things_in


def offers_of(worths):
    return [(bundle, worths[bundle]) for bundle in range(1, len(worths)) if is_offered(worths, bundle)]


def is_offered(worths, bundle):
    # Worths never fall as a bundle grows, so to look at the bundles that lack just one thing is enough.
    return all([worths[bundle] > worths[bundle - (1 << number)] for number in things_in(bundle)])


def worth_of(listed, bundle):
    return max([amount for offered, amount in listed if holds(bundle, offered)], default=0)


def pursed(worths, purse=None):
    if purse is None:
        return list(worths)
    return [min(worth, purse) for worth in worths]
