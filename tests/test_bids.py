"""2.1 to 2.10, and 0.1 and 0.4 as far as they speak of it: gavelhall/bids.py."""

import itertools
import random
import unittest

from gavelhall.bids import AnyOf, Bid, OneOf, Only, SoMany, UpTo
from gavelhall.errors import NoBid
from tests.samples import NO_WHOLES, refused, same

NAMES = ["a", "b", "c", "d", "e", "f"]
MOST = 10 ** 9
SEVERAL = (AnyOf, OneOf)
ALL = (Bid, Only, SoMany, UpTo, AnyOf, OneOf)


def things(bundle):
    return [number for number in range(6) if bundle // 2 ** number % 2]


def bundles(many):
    return range(2 ** many)


def inside(bundle, kind):
    return len(set(things(bundle)) & set(things(kind)))


# A bid written as a tuple of its class and what it is made with, so that what it must tell is told without the program.

def made(told):
    if told[0] in SEVERAL:
        return told[0]([made(one) for one in told[1]])
    return told[0](*told[1:])


def worth(told, bundle):
    if told[0] is Only:
        return told[2] if inside(bundle, told[1]) == len(things(told[1])) else 0
    if told[0] is SoMany:
        return told[3] if inside(bundle, told[1]) >= told[2] else 0
    if told[0] is UpTo:
        return told[3] * (told[2] if inside(bundle, told[1]) > told[2] else inside(bundle, told[1]))
    if told[0] is OneOf:
        return max([worth(one, bundle) for one in told[1]] + [0])
    if told[0] is AnyOf and told[1]:
        return max(shared_worth(told[1], bundle, way) for way in ways_to_share(told[1], bundle))
    return 0


def ways_to_share(bids, bundle):
    """For each thing of the bundle the place of the bid that it goes to, in all ways."""
    return itertools.product(range(len(bids)), repeat=len(things(bundle)))


def shared_worth(bids, bundle, way):
    shares = [0] * len(bids)
    for thing, place in zip(things(bundle), way):
        shares[place] += 2 ** thing
    return sum(worth(one, share) for one, share in zip(bids, shares))


def nested(depth):
    """A bid of just this depth, with a tally as great."""
    bid = Bid()
    for k in range(depth - 1):
        bid = SEVERAL[k % 2]([bid])
    return bid


def random_bid(chance, depth):
    kind = chance.choice(ALL if depth > 1 else ALL[:4])
    if kind is Bid:
        return (Bid,)
    if kind in SEVERAL:
        return (kind, [random_bid(chance, depth - 1) for k in range(chance.randrange(4))])
    amount = chance.choice((0, 1, 2, 3, 5, 8, 13, MOST))
    if kind is Only:
        return (Only, chance.randrange(1, 64), amount)
    return (kind, chance.randrange(1, 64), chance.randrange(1, 7), amount)


SINGLE = [
    (Bid,), (Only, 1, 5), (Only, 5, 0), (Only, 42, 7), (Only, 32, MOST), (Only, 63, MOST), (SoMany, 1, 1, 3),
    (SoMany, 63, 1, 4), (SoMany, 63, 6, MOST), (SoMany, 27, 3, 9), (SoMany, 5, 3, 9), (SoMany, 32, 6, 9),
    (SoMany, 9, 2, 0), (UpTo, 1, 1, 3), (UpTo, 63, 6, MOST), (UpTo, 63, 2, 4), (UpTo, 27, 3, 5), (UpTo, 5, 6, 5),
    (UpTo, 32, 1, MOST), (UpTo, 9, 2, 0),
]
NESTED = [
    (AnyOf, []), (OneOf, []), (AnyOf, [(Only, 3, 5)]), (OneOf, [(Only, 3, 5)]), (AnyOf, [(Only, 1, 5), (Only, 1, 7)]),
    (AnyOf, [(Only, 3, 5), (Only, 6, 7), (Only, 4, 3)]), (OneOf, [(Only, 3, 5), (Only, 6, 7), (Only, 4, 3)]),
    (AnyOf, [(Only, 3, 5)] * 3), (OneOf, [(Only, 3, 5)] * 3), (AnyOf, [(UpTo, 63, 1, 2)] * 4),
    (AnyOf, [(SoMany, 63, 2, 5), (UpTo, 7, 2, 2), (Only, 33, MOST)]),
    (OneOf, [(SoMany, 63, 2, 5), (UpTo, 7, 2, 2), (Only, 33, MOST)]),
    (AnyOf, [(OneOf, [(Only, 1, 4), (Only, 2, 6)]), (OneOf, [(Only, 1, 5), (Only, 2, 6), (Bid,)])]),
    (OneOf, [(AnyOf, [(Only, 1, 4), (Only, 2, 6)]), (AnyOf, [(Only, 4, 9), (Bid,), (AnyOf, [])])]),
    (AnyOf, [(OneOf, [(AnyOf, [(Only, 9, 2), (Only, 18, 3)]), (Only, 36, 4)]), (SoMany, 63, 4, 6)]),
]


class WhatBidsAre(unittest.TestCase):
    def test_the_five_stand_under_bid(self):
        for told in SINGLE + NESTED:
            with self.subTest(str(told)):
                bid = made(told)
                self.assertIsInstance(bid, Bid)
                self.assertEqual([kind for kind in ALL[1:] if isinstance(bid, kind)], [
                    kind for kind in ALL[1:] if kind is told[0]
                ])

    def test_by_the_names_of_their_arguments(self):
        same(self, Only(bundle=1, amount=5).worths(many=1), [0, 5])
        same(self, SoMany(kind=1, least=1, amount=5).worths(many=1), [0, 5])
        same(self, UpTo(kind=1, most=1, each=5).worths(many=1), [0, 5])
        same(self, AnyOf(bids=[Only(1, 5)]).worths(many=1), [0, 5])
        same(self, OneOf(bids=[Only(1, 5)]).worths(many=1), [0, 5])
        same(self, Bid().worths(many=1), [0, 0])
        same(self, Only(1, 5).words(names=["a"]), "a for 5")


class Worths(unittest.TestCase):
    def looked_at(self, told, bid, things_told=range(7)):
        whole = [worth(told, bundle) for bundle in bundles(max(things_told))]
        for many in things_told:
            # So the list for fewer things is the beginning of the list for more.
            same(self, bid.worths(many), whole[:2 ** many])

    def test_of_single_bids(self):
        for told in SINGLE:
            with self.subTest(str(told)):
                self.looked_at(told, made(told))

    def test_some_written_out(self):
        same(self, Bid().worths(0), [0])
        same(self, Bid().worths(2), [0, 0, 0, 0])
        same(self, Only(2, 5).worths(2), [0, 0, 5, 5])
        same(self, Only(3, 5).worths(2), [0, 0, 0, 5])
        same(self, SoMany(3, 1, 5).worths(2), [0, 5, 5, 5])
        same(self, SoMany(3, 2, 5).worths(2), [0, 0, 0, 5])
        same(self, SoMany(3, 3, 5).worths(2), [0, 0, 0, 0])
        same(self, UpTo(3, 1, 5).worths(2), [0, 5, 5, 5])
        same(self, UpTo(3, 2, 5).worths(2), [0, 5, 5, 10])
        same(self, UpTo(3, 6, 5).worths(2), [0, 5, 5, 10])
        same(self, UpTo(63, 6, MOST).worths(6)[63], 6 * MOST)
        same(self, AnyOf([UpTo(63, 6, MOST)] * 23).worths(6)[63], 6 * MOST)

    def test_each_bundle_and_kind(self):
        for kind in range(1, 64):
            with self.subTest(kind):
                self.looked_at((Only, kind, 5), Only(kind, 5), (6,))
                for number in range(1, 7):
                    self.looked_at((SoMany, kind, number, 5), SoMany(kind, number, 5), (6,))
                    self.looked_at((UpTo, kind, number, 5), UpTo(kind, number, 5), (6,))

    def test_bids_that_speak_of_other_things(self):
        for many in range(6):
            none = [0] * 2 ** many
            same(self, Only(32, 5).worths(many), none)
            same(self, Only(33, 5).worths(many), none)
            same(self, SoMany(32, 1, 5).worths(many), none)
            same(self, UpTo(32, 1, 5).worths(many), none)
            same(self, AnyOf([Only(32, 5), Only(48, 5)]).worths(many), none)
        same(self, SoMany(33, 1, 5).worths(1), [0, 5])
        same(self, UpTo(33, 2, 5).worths(1), [0, 5])
        same(self, AnyOf([Only(32, 5), Only(1, 4)]).worths(1), [0, 4])

    def test_the_document_s_any_of(self):
        same(self, AnyOf([Only(1, 5), Only(1, 7)]).worths(2), [0, 7, 0, 7])
        for many in range(7):
            same(self, AnyOf([]).worths(many), [0] * 2 ** many)
            same(self, OneOf([]).worths(many), [0] * 2 ** many)

    def test_of_bids_in_bids_by_all_ways_to_share_out(self):
        for told in NESTED:
            with self.subTest(str(told)):
                self.looked_at(told, made(told), range(6))

    def test_of_any_of_for_six_things(self):
        for told in NESTED[:9]:
            with self.subTest(str(told)):
                self.looked_at(told, made(told))

    def test_of_the_same_bid_standing_several_times(self):
        one = UpTo(7, 1, 3)
        same(self, AnyOf([one]).worths(3), [0, 3, 3, 3, 3, 3, 3, 3])
        same(self, AnyOf([one, one]).worths(3), [0, 3, 3, 6, 3, 6, 6, 6])
        same(self, AnyOf([one, one, one, one]).worths(3), [0, 3, 3, 6, 3, 6, 6, 9])
        same(self, OneOf([one, one, one]).worths(3), [0, 3, 3, 3, 3, 3, 3, 3])
        pair = AnyOf([one, one])
        same(self, AnyOf([pair, one]).worths(3), [0, 3, 3, 6, 3, 6, 6, 9])
        same(self, OneOf([pair, one]).worths(3), [0, 3, 3, 6, 3, 6, 6, 6])

    def test_any_of_in_another_order_tells_the_same(self):
        bids = [Only(3, 5), Only(6, 7), UpTo(7, 2, 2), SoMany(7, 2, 4)]
        for kind in SEVERAL:
            asked = kind(bids).worths(3)
            for order in itertools.permutations(bids):
                same(self, kind(list(order)).worths(3), asked)

    def test_bids_of_all_sorts(self):
        chance = random.Random(2)
        for k in range(150):
            told = random_bid(chance, 3)
            with self.subTest(str(told)):
                self.looked_at(told, made(told), range(4))

    def test_no_bundle_is_worth_less_than_one_that_it_holds(self):
        chance = random.Random(3)
        for told in SINGLE + NESTED + [random_bid(chance, 4) for k in range(20)]:
            try:
                worths = made(told).worths(6)
            except NoBid:
                continue
            with self.subTest(str(told)):
                self.assertEqual(worths[0], 0)
                for bundle in bundles(6):
                    for thing in things(bundle):
                        self.assertLessEqual(worths[bundle - 2 ** thing], worths[bundle])

    def test_the_greatest_bid_for_six_things(self):
        bid = AnyOf([OneOf([AnyOf([Only(63, 1), UpTo(63, 1, 2)]), SoMany(63, 2, 3)])] * 4 + [Bid(), Bid(), Bid()])
        same(self, (bid.depth(), bid.tally()), (4, 24))
        # Each of the four has 2 by one thing and 3 by two.
        same(self, [bid.worths(6)[bundle] for bundle in (0, 1, 3, 7, 15, 31, 63)], [0, 2, 4, 6, 8, 9, 10])


class DepthTallySpoken(unittest.TestCase):
    def test_of_single_bids(self):
        for told in SINGLE:
            bid = made(told)
            with self.subTest(str(told)):
                same(self, bid.depth(), 1)
                same(self, bid.tally(), 1)
                same(self, bid.spoken(), told[1] if len(told) > 1 else 0)

    def test_of_bids_in_bids(self):
        for told, depth, tally, spoken in (
            ([], 1, 1, 0), ([(Bid,)], 2, 2, 0), ([(Only, 3, 0)], 2, 2, 3), ([(AnyOf, []), (OneOf, [])], 2, 3, 0),
            ([(Only, 3, 5), (SoMany, 12, 6, 5), (UpTo, 32, 6, 0)], 2, 4, 47), ([(Only, 5, 5)] * 23, 2, 24, 5),
            ([(Only, 1, 1), (AnyOf, [(Only, 8, 1), (OneOf, [])])], 3, 5, 9),
            ([(AnyOf, [(OneOf, [(Only, 16, 1)])]), (Only, 2, 1)], 4, 5, 18),
            ([(Only, 2, 1), (AnyOf, [(OneOf, [(Only, 16, 1)])])], 4, 5, 18),
            ([(Only, 2, 1), (AnyOf, [(OneOf, [(Only, 16, 1)])]), (Only, 4, 1)], 4, 6, 22),
            ([(AnyOf, [(Only, 1, 1), (Only, 1, 1)])] * 3, 3, 10, 1),
        ):
            for kind in SEVERAL:
                bid = made((kind, told))
                with self.subTest(str((kind, told))):
                    same(self, (bid.depth(), bid.tally(), bid.spoken()), (depth, tally, spoken))

    def test_the_same_bid_counts_anew_wherever_it_stands(self):
        one = Only(4, 1)
        pair = AnyOf([one, one])
        bid = OneOf([pair, one, pair])
        same(self, (one.tally(), pair.tally(), bid.tally()), (1, 3, 8))
        same(self, (one.depth(), pair.depth(), bid.depth()), (1, 2, 3))
        same(self, (one.spoken(), pair.spoken(), bid.spoken()), (4, 4, 4))

    def test_depth_of_four_and_of_five(self):
        for depth in (1, 2, 3):
            for kind in SEVERAL:
                same(self, kind([nested(depth)]).depth(), depth + 1)
        deepest = nested(4)
        for kind in SEVERAL:
            for place in range(4):
                bids = [Bid(), Only(1, 1), nested(3)]
                bids.insert(place, deepest)
                refused(self, NoBid, kind, bids)
            refused(self, NoBid, kind, [deepest])
            same(self, kind([kind([kind([kind([])])])]).depth(), 4)
            refused(self, NoBid, kind, [kind([kind([kind([kind([])])])])])

    def test_tally_of_twenty_four_and_of_twenty_five(self):
        for kind in SEVERAL:
            for other in SEVERAL:
                same(self, kind([Bid()] * 23).tally(), 24)
                refused(self, NoBid, kind, [Bid()] * 24)
                refused(self, NoBid, kind, [Bid()] * 1000)
                eleven = other([Only(1, 1)] * 10)
                same(self, kind([eleven, eleven, Bid()]).tally(), 24)
                refused(self, NoBid, kind, [eleven, eleven, Bid(), Bid()])
                refused(self, NoBid, kind, [eleven, eleven, eleven])
                same(self, kind([other([Bid()] * 21), Bid()]).tally(), 24)
                refused(self, NoBid, kind, [other([Bid()] * 23)])
                same(self, kind([other([Bid()] * 22)]).tally(), 24)


class Refused(unittest.TestCase):
    def bounded(self, least, most, call):
        """What lies within the bounds is taken, and all else is refused."""
        for number in (least, least + 1, most - 1, most):
            with self.subTest(number):
                self.assertIsInstance(call(number), Bid)
        for number in (least - 1, most + 1, -1, -most, 10 * most, -10 ** 299, 10 ** 299):
            with self.subTest(number):
                refused(self, NoBid, call, number)
        for what, thing in NO_WHOLES:
            with self.subTest(what):
                refused(self, NoBid, call, thing)
        for what, thing in (("a bid", Bid()), ("a class", Bid), ("a list of bids", [Bid()])):
            with self.subTest(what):
                refused(self, NoBid, call, thing)

    def test_only(self):
        self.bounded(1, 63, lambda bundle: Only(bundle, 5))
        self.bounded(0, MOST, lambda amount: Only(3, amount))

    def test_so_many(self):
        self.bounded(1, 63, lambda kind: SoMany(kind, 1, 5))
        self.bounded(1, 6, lambda least: SoMany(3, least, 5))
        self.bounded(0, MOST, lambda amount: SoMany(3, 1, amount))

    def test_up_to(self):
        self.bounded(1, 63, lambda kind: UpTo(kind, 1, 5))
        self.bounded(1, 6, lambda most: UpTo(3, most, 5))
        self.bounded(0, MOST, lambda each: UpTo(3, 1, each))

    def test_several_faults_at_once(self):
        for what, thing in NO_WHOLES:
            with self.subTest(what):
                refused(self, NoBid, Only, thing, thing)
                refused(self, NoBid, SoMany, thing, thing, thing)
                refused(self, NoBid, UpTo, thing, thing, thing)
                refused(self, NoBid, Only, 64, thing)
                refused(self, NoBid, UpTo, thing, 7, -1)

    def test_what_is_no_list(self):
        things_told = [one for one in NO_WHOLES if not isinstance(one[1], list)] + [
            ("a bid", Bid()), ("a tuple of a bid", (Bid(),)), ("a tuple of bids", (Only(1, 1), Only(2, 1))),
            ("a dict of bids", {0: Bid()}), ("a dict of no bids", {}), ("a number", 0), ("another number", 7),
            ("a class", Bid), ("the class list", list), ("a walk", iter([Bid()])),
        ]
        for kind in SEVERAL:
            for what, thing in things_told:
                with self.subTest(what):
                    refused(self, NoBid, kind, thing)

    def test_a_list_with_what_is_no_bid(self):
        things_told = NO_WHOLES + [
            ("a number", 5), ("a class", Bid), ("a class of the five", Only), ("a list of a bid", [Bid()]),
            ("a tuple of a bid", (Bid(),)), ("a text", "nothing"), ("what an Only is made with", (1, 5)),
        ]
        for kind in SEVERAL:
            for what, thing in things_told:
                for place in range(4):
                    bids = [Only(1, 5), Bid(), AnyOf([])]
                    bids.insert(place, thing)
                    with self.subTest(what, place=place):
                        refused(self, NoBid, kind, bids)
                with self.subTest(what):
                    refused(self, NoBid, kind, [thing])
                    refused(self, NoBid, kind, [thing] * 30)
                    refused(self, NoBid, kind, [nested(4), thing])
                    refused(self, NoBid, kind, [Bid()] * 30 + [thing])

    def test_a_list_with_itself_in_it(self):
        for kind in SEVERAL:
            bids = [Bid()]
            bids.append(bids)
            refused(self, NoBid, kind, bids)

    def test_once_made_good_it_is_taken(self):
        for kind in SEVERAL:
            bids = [Only(1, 5), None]
            refused(self, NoBid, kind, bids)
            self.assertEqual((len(bids), bids[1]), (2, None))
            bids[1] = nested(4)
            refused(self, NoBid, kind, bids)
            bids[1] = Only(2, 7)
            same(self, kind(bids).worths(1), [0, 5])
            same(self, bids[0].worths(1), [0, 5])
        refused(self, NoBid, Only, 0, 5)
        same(self, Only(1, 5).worths(1), [0, 5])


class Words(unittest.TestCase):
    def test_the_document_s(self):
        for told, asked in (
            ((Bid,), "nothing"), ((Only, 3, 5), "a+b for 5"), ((SoMany, 3, 2, 5), "2 of a+b for 5"),
            ((UpTo, 3, 2, 5), "up to 2 of a+b for 5 each"), ((AnyOf, []), "any()"), ((OneOf, []), "one()"),
            ((AnyOf, [(Only, 3, 5)]), "any(a+b for 5)"), ((OneOf, [(Bid,)]), "one(nothing)"),
            ((AnyOf, [(Only, 1, 5), (Bid,), (UpTo, 2, 1, 0)]), "any(a for 5; nothing; up to 1 of b for 0 each)"),
            ((OneOf, [(SoMany, 2, 6, 1), (Only, 1, 5)]), "one(6 of b for 1; a for 5)"),
            ((OneOf, [(AnyOf, [(Only, 1, 5), (OneOf, [])]), (AnyOf, [])]), "one(any(a for 5; one()); any())"),
        ):
            with self.subTest(asked):
                same(self, made(told).words(NAMES), asked)

    def test_names_in_the_order_of_the_things(self):
        for bundle in range(1, 64):
            place = "+".join([NAMES[number] for number in things(bundle)])
            with self.subTest(bundle):
                same(self, Only(bundle, 0).words(NAMES), place + " for 0")
                same(self, SoMany(bundle, 6, MOST).words(NAMES), "6 of " + place + " for 1000000000")
                same(self, UpTo(bundle, 1, 999).words(NAMES), "up to 1 of " + place + " for 999 each")

    def test_the_bids_in_the_order_of_the_list(self):
        bids = [Only(1, 1), Only(2, 2), Only(4, 3)]
        same(self, AnyOf(bids).words(NAMES), "any(a for 1; b for 2; c for 3)")
        same(self, AnyOf([bids[2], bids[0], bids[2]]).words(NAMES), "any(c for 3; a for 1; c for 3)")
        same(self, OneOf([bids[1], bids[0]]).words(NAMES), "one(b for 2; a for 1)")

    def test_names_that_are_longer_than_needed_and_other_places(self):
        same(self, Only(1, 5).words(["a"]), "a for 5")
        same(self, Only(1, 5).words(NAMES + ["g", "h"]), "a for 5")
        same(self, Only(4, 5).words([None, 7, "c", ["x"]]), "c for 5")
        same(self, AnyOf([UpTo(2, 1, 5), SoMany(8, 1, 5)]).words([None, "b", None, "d", None]),
             "any(up to 1 of b for 5 each; 1 of d for 5)")

    def test_no_names_where_nothing_is_spoken_of(self):
        for bid, asked in ((Bid(), "nothing"), (AnyOf([]), "any()"), (OneOf([Bid(), AnyOf([])]), "one(nothing; any())")):
            same(self, bid.words([]), asked)
            same(self, bid.words([None]), asked)

    def test_names_alike_and_of_any_signs_and_length(self):
        same(self, Only(7, 5).words(["x", "x", "x"]), "x+x+x for 5")
        same(self, UpTo(7, 1, 5).words(["", "", ""]), "up to 1 of ++ for 5 each")
        same(self, SoMany(3, 1, 5).words(["a b", "for"]), "1 of a b+for for 5")
        odd = ["{amount}", "%s", "\\n\n\t", "+; ", "any()", "'\""]
        same(self, Only(63, 5).words(odd), "+".join(odd) + " for 5")
        same(self, OneOf([UpTo(63, 2, 5)]).words(odd), "one(up to 2 of " + "+".join(odd) + " for 5 each)")
        same(self, Only(1, 5).words(["x" * 5000]), "x" * 5000 + " for 5")

    def test_names_that_begin_one_another_or_are_words_of_the_texts(self):
        for names in (
            ["a", "ab", "abc", "abcd", "b", "bc"], ["abc", "ab", "a", "aa", "aaa", "aaaa"],
            ["up", "to", "of", "for", "each", "any"], ["one", "nothing", "each", "up", "up", "one"],
            ["nothing"] * 6, ["for"] * 9, ["a", "a", "b", "b", "a", "a", "more", "a"],
        ):
            both = names[0] + "+" + names[5]
            bid = OneOf([Bid(), AnyOf([Only(33, 5), SoMany(6, 2, 0), OneOf([])]), UpTo(63, 3, MOST)])
            with self.subTest(names):
                same(self, Only(33, 5).words(names), both + " for 5")
                same(self, SoMany(33, 2, 5).words(names), "2 of " + both + " for 5")
                same(self, UpTo(33, 2, 5).words(names), "up to 2 of " + both + " for 5 each")
                same(self, bid.words(names),
                     "one(nothing; any(" + both + " for 5; 2 of " + names[1] + "+" + names[2] + " for 0; one()); "
                     "up to 3 of " + "+".join(names[:6]) + " for 1000000000 each)")


class NothingIsChanged(unittest.TestCase):
    def answers(self, bid):
        return repr((bid.worths(3), bid.worths(6), bid.depth(), bid.tally(), bid.spoken(), bid.words(NAMES)))

    def test_what_is_asked_changes_nothing(self):
        for told in SINGLE + NESTED:
            bid = made(told)
            with self.subTest(str(told)):
                asked = self.answers(bid)
                self.assertEqual(self.answers(bid), asked)

    def test_told_lists_that_are_spoilt(self):
        for told in SINGLE + NESTED:
            bid = made(told)
            asked = self.answers(bid)
            for many in (0, 3, 6):
                spoilt = bid.worths(many)
                spoilt[0] = 77
                spoilt.append(5)
                bid.worths(many).clear()
            with self.subTest(str(told)):
                self.assertEqual(self.answers(bid), asked)
                self.assertEqual(self.answers(made(told)), asked)

    def test_the_list_of_bids_stays_and_may_be_changed_behind(self):
        for kind in SEVERAL:
            inner = [Only(1, 5), Only(2, 7)]
            first = kind(inner)
            bids = [first, UpTo(7, 2, 3), first]
            kept = list(bids)
            bid = AnyOf(bids)
            asked = self.answers(bid)
            self.assertEqual(len(bids), 3)
            self.assertTrue(all(one is other for one, other in zip(bids, kept)))
            inner.append(Only(4, 9))
            inner[0] = Only(8, 1)
            self.assertEqual(self.answers(bid), asked)
            bids.append(nested(4))
            bids[0] = None
            self.assertEqual(self.answers(bid), asked)
            bids.clear()
            inner.clear()
            self.assertEqual(self.answers(bid), asked)

    def test_names_stay_as_they_were(self):
        names = list(NAMES)
        bid = AnyOf([Only(3, 5), UpTo(48, 2, 1)])
        bid.words(names)
        same(self, names, NAMES)
        names[0] = "z"
        same(self, bid.words(names), "any(z+b for 5; up to 2 of e+f for 1 each)")
        same(self, bid.words(NAMES), "any(a+b for 5; up to 2 of e+f for 1 each)")

    def test_a_bid_that_stands_in_others_stays(self):
        one = AnyOf([Only(1, 5), Only(2, 7)])
        asked = self.answers(one)
        both = OneOf([one, AnyOf([one, one])])
        both.worths(6)
        both.words(NAMES)
        self.assertEqual(self.answers(one), asked)
        refused(self, NoBid, AnyOf, [one] * 9)
        self.assertEqual(self.answers(one), asked)


if __name__ == "__main__":
    unittest.main()
