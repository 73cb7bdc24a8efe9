"""Bids: what each bundle is worth to a bidder."""

from gavelhall.bundles import holds, parts_of, size_of, things_in
from gavelhall.errors import NoBid
from gavelhall.wholes import is_within


class Bid:
    def worths(self, many):
        return worths_of_nothing(many)

    def depth(self):
        return 1

    def tally(self):
        return 1

    def spoken(self):
        return 0

    def words(self, names):
        return "nothing"


class Only(Bid):
    def __init__(self, bundle, amount):
        check_bundle(bundle)
        check_amount(amount)
        self.bundle = bundle
        self.amount = amount

    def worths(self, many):
        return [self.amount if holds(bundle, self.bundle) else 0 for bundle in range(1 << many)]

    def spoken(self):
        return self.bundle

    def words(self, names):
        place = place_words(self.bundle, names)
        amount = self.amount
        return f"{place} for {amount}"


class SoMany(Bid):
    def __init__(self, kind, least, amount):
        check_bundle(kind)
        check_so_many(least)
        check_amount(amount)
        self.kind = kind
        self.least = least
        self.amount = amount

    def worths(self, many):
        return [self.amount if size_of(bundle & self.kind) >= self.least else 0 for bundle in range(1 << many)]

    def spoken(self):
        return self.kind

    def words(self, names):
        place = place_words(self.kind, names)
        least = self.least
        amount = self.amount
        return f"{least} of {place} for {amount}"


class UpTo(Bid):
    def __init__(self, kind, most, each):
        check_bundle(kind)
        check_so_many(most)
        check_amount(each)
        self.kind = kind
        self.most = most
        self.each = each

    def worths(self, many):
        return [self.each * min(size_of(bundle & self.kind), self.most) for bundle in range(1 << many)]

    def spoken(self):
        return self.kind

    def words(self, names):
        place = place_words(self.kind, names)
        most = self.most
        each = self.each
        return f"up to {most} of {place} for {each} each"


class Several(Bid):
    # What AnyOf and OneOf have in common: all but what the bids of the list come to together.
    def __init__(self, bids):
        check_bids(bids)
        self.bids = list(bids)

    def depth(self):
        return depth_over(self.bids)

    def tally(self):
        return tally_over(self.bids)

    def spoken(self):
        bundle = 0
        for bid in self.bids:
            bundle = bundle | bid.spoken()
        return bundle


class AnyOf(Several):
    def worths(self, many):
        best = worths_of_nothing(many)
        for bid in self.bids:
            best = shared_out(best, bid.worths(many))
        return best

    def words(self, names):
        inner = list_words(self.bids, names)
        return f"any({inner})"


class OneOf(Several):
    def worths(self, many):
        best = worths_of_nothing(many)
        for bid in self.bids:
            best = greater_of(best, bid.worths(many))
        return best

    def words(self, names):
        inner = list_words(self.bids, names)
        return f"one({inner})"


def check_bundle(bundle):
    if not is_within(bundle, 1, 63):
        raise NoBid("a bid is for a bundle of one to six things")


def check_so_many(number):
    if not is_within(number, 1, 6):
        raise NoBid("a number of things in a bid is a whole number from 1 to 6")


def check_amount(amount):
    if not is_within(amount, 0, 10 ** 9):
        raise NoBid("an amount in a bid is a whole number from 0 to 10 ** 9")


def check_bids(bids):
    if not isinstance(bids, list):
        raise NoBid("several bids are told in a list")
    for bid in bids:
        if not isinstance(bid, Bid):
            raise NoBid("in a list of bids there are bids alone")
    if depth_over(bids) > 4:
        raise NoBid("bids stand in one another no deeper than four")
    if tally_over(bids) > 24:
        raise NoBid("a bid counts at most twenty-four bids")


def depth_over(bids):
    return 1 + max([bid.depth() for bid in bids], default=0)


def tally_over(bids):
    return 1 + sum([bid.tally() for bid in bids])


def worths_of_nothing(many):
    return [0 for bundle in range(1 << many)]


def shared_out(one, other):
    return [best_share(one, other, bundle) for bundle in range(len(one))]


def best_share(one, other, bundle):
    # What is left of the bundle behind one of its parts is just the difference of both.
    return max([one[part] + other[bundle - part] for part in parts_of(bundle)])


def greater_of(one, other):
    return [max(first, second) for first, second in zip(one, other)]


def place_words(bundle, names):
    return "+".join([names[number] for number in things_in(bundle)])


def list_words(bids, names):
    return "; ".join([bid.words(names) for bid in bids])
