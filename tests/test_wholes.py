"""1.1 and 1.2: gavelhall/wholes.py."""

import math
import unittest

from gavelhall.wholes import divisor, is_whole, is_within
from tests.samples import NO_WHOLES, same


class IsWhole(unittest.TestCase):
    def test_whole_numbers(self):
        for one in (0, 7, -3, 1, -1, 63, 10 ** 12, -10 ** 12, 10 ** 299, -10 ** 299):
            with self.subTest(one):
                self.assertIs(is_whole(one), True)

    def test_all_else(self):
        for what, thing in NO_WHOLES:
            with self.subTest(what):
                self.assertIs(is_whole(thing), False)

    def test_by_the_name_of_its_argument(self):
        self.assertIs(is_whole(thing=7), True)

    def test_what_is_handed_in_stays(self):
        handed = [1, 2]
        self.assertIs(is_whole(handed), False)
        self.assertEqual(handed, [1, 2])


class IsWithin(unittest.TestCase):
    def test_both_bounds_belong_to_it(self):
        for one, asked in ((0, False), (1, True), (2, True), (6, True), (7, False), (-1, False), (10 ** 299, False)):
            with self.subTest(one):
                self.assertIs(is_within(one, 1, 6), asked)

    def test_what_is_no_whole_number_lies_nowhere(self):
        for what, thing in NO_WHOLES:
            with self.subTest(what):
                self.assertIs(is_within(thing, 0, 6), False)


class Divisor(unittest.TestCase):
    def test_small_ones_in_both_orders_and_signs(self):
        for one, other, asked in (
            (12, 18, 6), (7, 5, 1), (4, 4, 4), (3, 9, 3), (1, 8, 1), (1, 1, 1), (100, 75, 25), (2, 64, 2),
        ):
            for first in (one, -one):
                for second in (other, -other):
                    with self.subTest(first=first, second=second):
                        same(self, divisor(first, second), asked)
                        same(self, divisor(second, first), asked)

    def test_nought_and_another_one(self):
        for one in (1, 2, 7, 60, 10 ** 70 + 9):
            for first in (one, -one):
                with self.subTest(first):
                    same(self, divisor(0, first), one)
                    same(self, divisor(first, 0), one)

    def test_nought_and_nought(self):
        same(self, divisor(0, 0), 0)

    def test_it_is_never_below_nought(self):
        for one in range(-20, 21):
            for other in range(-20, 21):
                self.assertGreaterEqual(divisor(one, other), 0)

    def test_it_is_the_greatest_that_divides_both(self):
        for one in range(-30, 31):
            for other in range(-30, 31):
                if one or other:
                    most = max(abs(one), abs(other))
                    both = [k for k in range(1, most + 1) if one % k == 0 and other % k == 0]
                    same(self, divisor(one, other), max(both))

    def test_sixty_figures_and_more(self):
        for power in (60, 119, 150, 290):
            common = 10 ** power + 1
            for first in (common * 96, -common * 96):
                for second in (common * 35, -common * 35):
                    with self.subTest(power, first=first > 0, second=second > 0):
                        same(self, divisor(first, second), common)
                        same(self, divisor(second, first), common)
        same(self, divisor(10 ** 200, 6), 2)
        same(self, divisor(2 ** 900, 6 ** 300), 2 ** 300)
        same(self, divisor(3 ** 500 + 1, 3 ** 501 + 7), math.gcd(3 ** 500 + 1, 3 ** 501 + 7))

    def test_the_longest_way_for_three_hundred_figures(self):
        # Neighbours of this row take the most steps that numbers of their size can take.
        lesser, greater = 1, 1
        while len(str(lesser + greater)) <= 300:
            lesser, greater = greater, lesser + greater
        same(self, divisor(lesser, greater), 1)
        same(self, divisor(greater, -lesser), 1)

    def test_by_the_names_of_its_arguments(self):
        same(self, divisor(one=12, other=18), 6)


if __name__ == "__main__":
    unittest.main()
