"""2.11 to 2.13, and 0.1 as far as it speaks of it: gavelhall/offers.py."""

import itertools
import unittest

from gavelhall.bids import AnyOf, Bid, OneOf, Only, SoMany, UpTo
from gavelhall.offers import offers_of, pursed, worth_of
from tests.samples import same

BIDS = [
    Bid(),
    Only(1, 5),
    Only(42, 10 ** 9),
    Only(63, 1),
    Only(7, 0),
    SoMany(63, 3, 8),
    SoMany(12, 3, 8),
    UpTo(63, 6, 2),
    UpTo(21, 2, 10 ** 9),
    AnyOf([Only(3, 5), Only(6, 7), UpTo(56, 2, 3), SoMany(63, 5, 1)]),
    OneOf([Only(3, 5), Only(6, 5), UpTo(63, 4, 2), SoMany(63, 5, 9)]),
    AnyOf([Only(1 << number, number + 1) for number in range(6)]),
    OneOf([Only(1 << number, number + 1) for number in range(6)]),
]


def lists_of_worths():
    """Those of some bids, each also cut off, for none to six things."""
    for bid in BIDS:
        for many in range(7):
            worths = bid.worths(many)
            yield worths
            for purse in (0, 1, 4, 7):
                yield [min(worth, purse) for worth in worths]


def least_bundles(worths):
    """The offers by another way: worth more than each bundle that it holds but itself."""
    return [
        (bundle, worths[bundle]) for bundle in range(1, len(worths))
        if all(worths[part] < worths[bundle] for part in range(bundle) if part & bundle == part)
    ]


class OffersOf(unittest.TestCase):
    def test_the_document_s(self):
        same(self, offers_of([0, 5, 5, 5]), [(1, 5), (2, 5)])
        same(self, offers_of([0, 0, 0, 9]), [(3, 9)])
        same(self, offers_of(worths=[0, 2, 3, 5]), [(1, 2), (2, 3), (3, 5)])
        same(self, offers_of([0]), [])

    def test_worths_that_are_all_nought(self):
        for many in range(7):
            with self.subTest(many):
                same(self, offers_of([0] * 2 ** many), [])

    def test_one_thing(self):
        same(self, offers_of([0, 0]), [])
        same(self, offers_of([0, 1]), [(1, 1)])
        same(self, offers_of([0, 10 ** 12]), [(1, 10 ** 12)])

    def test_worth_more_than_one_of_them_is_not_enough(self):
        same(self, offers_of([0, 5, 3, 5]), [(1, 5), (2, 3)])
        same(self, offers_of([0, 3, 5, 5]), [(1, 3), (2, 5)])
        same(self, offers_of([0, 0, 0, 4, 0, 4, 4, 4]), [(3, 4), (5, 4), (6, 4)])
        same(self, offers_of([0, 0, 0, 4, 0, 4, 4, 5]), [(3, 4), (5, 4), (6, 4), (7, 5)])
        same(self, offers_of([0, 0, 0, 0, 0, 0, 4, 4]), [(6, 4)])

    def test_none_to_six_things(self):
        for worths in lists_of_worths():
            with self.subTest(worths):
                same(self, offers_of(worths), least_bundles(worths))

    def test_all_sixty_three_are_offered_where_each_thing_adds(self):
        worths = UpTo(63, 6, 2).worths(6)
        same(self, [bundle for bundle, amount in offers_of(worths)], list(range(1, 64)))

    def test_what_is_handed_in_and_told_stays(self):
        handed = [0, 2, 3, 5]
        told = offers_of(handed)
        same(self, handed, [0, 2, 3, 5])
        handed[3] = 9
        same(self, told, [(1, 2), (2, 3), (3, 5)])
        told.append((7, 7))
        told[0] = (1, 1)
        same(self, offers_of([0, 2, 3, 5]), [(1, 2), (2, 3), (3, 5)])
        same(self, offers_of(handed), [(1, 2), (2, 3), (3, 9)])
        offers_of([0]).append((1, 1))
        same(self, offers_of([0]), [])


class WorthOf(unittest.TestCase):
    def test_of_none(self):
        for bundle in range(64):
            same(self, worth_of([], bundle), 0)

    def test_those_whose_bundles_are_held(self):
        listed = [(1, 2), (2, 3), (6, 9)]
        asked = [0, 2, 3, 3, 0, 2, 9, 9]
        same(self, [worth_of(listed, bundle) for bundle in range(8)], asked)
        same(self, worth_of(listed=listed, bundle=63), 9)
        same(self, worth_of(listed, 56), 0)

    def test_in_each_order_with_bundles_alike_and_amounts_of_nought(self):
        listed = [(3, 4), (3, 7), (1, 0), (2, 5), (2, 5)]
        for order in itertools.permutations(listed):
            with self.subTest(order):
                same(self, [worth_of(list(order), bundle) for bundle in range(4)], [0, 0, 5, 7])

    def test_a_greater_bundle_with_a_lesser_amount(self):
        same(self, worth_of([(1, 9), (3, 4)], 3), 9)
        same(self, worth_of([(3, 4), (1, 9)], 3), 9)
        same(self, worth_of([(3, 4), (1, 9)], 2), 0)

    def test_at_the_bounds(self):
        same(self, worth_of([(63, 10 ** 12)], 63), 10 ** 12)
        same(self, worth_of([(63, 10 ** 12)], 62), 0)
        same(self, worth_of([(63, 10 ** 12)], 0), 0)
        same(self, worth_of([(63, 0)], 63), 0)

    def test_it_tells_again_what_the_worths_told(self):
        for worths in lists_of_worths():
            with self.subTest(worths):
                offers = offers_of(worths)
                same(self, [worth_of(offers, bundle) for bundle in range(len(worths))], worths)
                offers.reverse()
                same(self, [worth_of(offers, bundle) for bundle in range(len(worths))], worths)

    def test_the_list_stays_as_it_was(self):
        handed = [(3, 4), (1, 9), (1, 0)]
        same(self, worth_of(handed, 7), 9)
        same(self, handed, [(3, 4), (1, 9), (1, 0)])
        handed.pop(1)
        same(self, worth_of(handed, 7), 4)


class Pursed(unittest.TestCase):
    def test_without_a_purse(self):
        for worths in ([], [0], [0, 2, 3, 5], [9, 0, 10 ** 12]):
            with self.subTest(worths):
                same(self, pursed(worths), worths)
                same(self, pursed(worths, None), worths)
                same(self, pursed(worths=worths, purse=None), worths)

    def test_with_a_purse(self):
        for purse, asked in (
            (0, [0, 0, 0, 0]), (1, [0, 1, 1, 1]), (2, [0, 2, 2, 2]), (4, [0, 2, 3, 4]), (5, [0, 2, 3, 5]),
            (6, [0, 2, 3, 5]), (10 ** 12, [0, 2, 3, 5]),
        ):
            with self.subTest(purse):
                same(self, pursed([0, 2, 3, 5], purse), asked)
                same(self, pursed(worths=[0, 2, 3, 5], purse=purse), asked)

    def test_lists_of_any_length_and_order(self):
        same(self, pursed([], 3), [])
        same(self, pursed([7], 3), [3])
        same(self, pursed([7, 1, 5], 3), [3, 1, 3])
        same(self, pursed([10 ** 12 + 1, 10 ** 12, 10 ** 12 - 1], 10 ** 12), [10 ** 12, 10 ** 12, 10 ** 12 - 1])

    def test_none_to_six_things(self):
        for worths in lists_of_worths():
            for purse in (0, 3, 10 ** 9):
                told = pursed(worths, purse)
                self.assertEqual(len(told), len(worths))
                for worth, cut in zip(worths, told):
                    self.assertEqual(cut, purse if worth > purse else worth)

    def test_it_is_a_new_list(self):
        for purse in (None, 0, 4, 9):
            handed = [0, 2, 3, 5]
            told = pursed(handed, purse)
            asked = list(told)
            with self.subTest(purse):
                self.assertIsNot(told, handed)
                same(self, handed, [0, 2, 3, 5])
                handed[1] = 77
                same(self, told, asked)
                told.append(8)
                same(self, handed, [0, 77, 3, 5])
                same(self, pursed([0, 2, 3, 5], purse), asked)


if __name__ == "__main__":
    unittest.main()
