"""1.9 to 1.13, and 0.1 and 0.4 as far as they speak of it: gavelhall/bundles.py."""

import itertools
import unittest

from gavelhall.bundles import apart, bundle_of, cost_of, holds, parts_of, size_of, things_in
from gavelhall.errors import NoBundle
from tests.samples import NO_WHOLES, refused, same

# Each of the sixty-four bundles with its things, told without the program: the last thing varies slowest.
THINGS = [
    [number for number, there in enumerate(reversed(row)) if there] for row in itertools.product((0, 1), repeat=6)
]
NO_NUMBERS = NO_WHOLES + [
    ("-1", -1), ("6", 6), ("7", 7), ("63", 63), ("64", 64), ("below", -10 ** 299), ("above", 10 ** 299),
]


class BundleOf(unittest.TestCase):
    def test_the_document_s(self):
        same(self, bundle_of([]), 0)
        same(self, bundle_of([0, 2]), 5)
        same(self, bundle_of(numbers=[2, 0]), 5)

    def test_one_thing(self):
        for number, asked in enumerate((1, 2, 4, 8, 16, 32)):
            with self.subTest(number):
                same(self, bundle_of([number]), asked)

    def test_each_order_of_each_bundle(self):
        for bundle, things in enumerate(THINGS):
            with self.subTest(things):
                for order in itertools.permutations(things):
                    same(self, bundle_of(list(order)), bundle)

    def test_all_six(self):
        same(self, bundle_of([0, 1, 2, 3, 4, 5]), 63)
        same(self, bundle_of([5, 3, 1, 0, 2, 4]), 63)

    def test_what_is_no_number_of_a_thing_at_each_place(self):
        for what, thing in NO_NUMBERS:
            for place in range(4):
                handed = [4, 0, 2]
                handed.insert(place, thing)
                with self.subTest(what, place=place):
                    refused(self, NoBundle, bundle_of, handed)
            with self.subTest(what):
                refused(self, NoBundle, bundle_of, [thing])
                refused(self, NoBundle, bundle_of, [thing, thing])
                refused(self, NoBundle, bundle_of, [0, 1, 2, 3, 4, 5, thing])

    def test_a_number_that_comes_twice(self):
        for number in range(6):
            others = [one for one in range(6) if one != number]
            for few in range(6):
                for first in range(few + 1):
                    for second in range(first + 1, few + 2):
                        handed = others[:few]
                        handed.insert(first, number)
                        handed.insert(second, number)
                        with self.subTest(handed):
                            refused(self, NoBundle, bundle_of, handed)
            refused(self, NoBundle, bundle_of, [number, number, number])

    def test_the_list_stays_and_once_made_good_it_is_taken(self):
        handed = [3, 1, 3]
        refused(self, NoBundle, bundle_of, handed)
        same(self, handed, [3, 1, 3])
        handed[2] = 6
        refused(self, NoBundle, bundle_of, handed)
        same(self, handed, [3, 1, 6])
        handed[2] = 5
        same(self, bundle_of(handed), 42)
        same(self, handed, [3, 1, 5])


class ThingsIn(unittest.TestCase):
    def test_each_of_the_sixty_four(self):
        self.assertEqual(len(THINGS), 64)
        for bundle, things in enumerate(THINGS):
            with self.subTest(bundle):
                same(self, things_in(bundle), things)
                same(self, size_of(bundle), len(things))
                same(self, bundle_of(things_in(bundle)), bundle)

    def test_some_written_out(self):
        same(self, things_in(0), [])
        same(self, things_in(bundle=5), [0, 2])
        same(self, things_in(63), [0, 1, 2, 3, 4, 5])
        same(self, things_in(32), [5])
        same(self, size_of(0), 0)
        same(self, size_of(bundle=5), 2)
        same(self, size_of(63), 6)

    def test_a_told_list_that_is_spoilt_changes_nothing(self):
        told = things_in(5)
        told.append(1)
        told[0] = 4
        same(self, things_in(5), [0, 2])
        same(self, size_of(5), 2)
        things_in(0).append(3)
        same(self, things_in(0), [])


class HoldsAndApart(unittest.TestCase):
    def test_each_pair_by_its_things(self):
        for one in range(64):
            for other in range(64):
                here, there = set(THINGS[one]), set(THINGS[other])
                with self.subTest(one=one, other=other):
                    self.assertIs(holds(one, other), here >= there)
                    self.assertIs(apart(one, other), not here & there)

    def test_with_itself_and_with_nought(self):
        for one in range(64):
            with self.subTest(one):
                self.assertIs(holds(one, one), True)
                self.assertIs(holds(one, 0), True)
                self.assertIs(holds(0, one), one == 0)
                self.assertIs(apart(one, 0), True)
                self.assertIs(apart(0, one), True)
                self.assertIs(apart(one, one), one == 0)

    def test_by_the_names_of_their_arguments(self):
        self.assertIs(holds(one=7, other=5), True)
        self.assertIs(holds(one=5, other=7), False)
        self.assertIs(apart(one=5, other=2), True)
        self.assertIs(apart(one=5, other=6), False)


class PartsOf(unittest.TestCase):
    def test_some_written_out(self):
        same(self, parts_of(0), [0])
        same(self, parts_of(1), [0, 1])
        same(self, parts_of(32), [0, 32])
        same(self, parts_of(bundle=5), [0, 1, 4, 5])
        same(self, parts_of(42), [0, 2, 8, 10, 32, 34, 40, 42])
        same(self, parts_of(63), list(range(64)))

    def test_each_rises_and_has_each_part_once(self):
        for bundle in range(64):
            things = set(THINGS[bundle])
            with self.subTest(bundle):
                same(self, parts_of(bundle), [part for part in range(64) if set(THINGS[part]) <= things])

    def test_a_told_list_that_is_spoilt_changes_nothing(self):
        parts_of(0).append(7)
        same(self, parts_of(0), [0])
        told = parts_of(5)
        told.clear()
        same(self, parts_of(5), [0, 1, 4, 5])


class CostOf(unittest.TestCase):
    def test_of_the_bundle_without_things(self):
        for prices in ([], [7], [1, 2, 3, 4, 5, 6, 7]):
            with self.subTest(prices):
                same(self, cost_of(0, prices), 0)

    def test_of_each_by_its_things(self):
        prices = [1, 10, 100, 1000, 10 ** 4, 10 ** 12]
        for bundle, things in enumerate(THINGS):
            with self.subTest(bundle):
                asked = sum([prices[number] for number in things])
                same(self, cost_of(bundle, prices), asked)
                same(self, cost_of(bundle, prices[:max(things, default=-1) + 1]), asked)
                same(self, cost_of(bundle, prices + [5, 0, 7 * 10 ** 11]), asked)

    def test_what_stands_at_other_places_counts_for_nothing(self):
        same(self, cost_of(5, [3, 0, 4]), 7)
        same(self, cost_of(5, [3, 10 ** 12, 4, 10 ** 12]), 7)
        same(self, cost_of(bundle=32, prices=[1, 1, 1, 1, 1, 0, 9, 9]), 0)

    def test_prices_of_nought_and_the_greatest(self):
        same(self, cost_of(63, [0] * 6), 0)
        same(self, cost_of(63, [10 ** 12] * 6), 6 * 10 ** 12)

    def test_the_list_stays_as_it_was(self):
        handed = [3, 5, 4]
        same(self, cost_of(5, handed), 7)
        same(self, handed, [3, 5, 4])
        handed[0] = 1
        same(self, cost_of(5, handed), 5)


if __name__ == "__main__":
    unittest.main()
