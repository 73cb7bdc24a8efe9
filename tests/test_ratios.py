"""1.3 to 1.8: gavelhall/ratios.py."""

import math
import unittest
from fractions import Fraction

from gavelhall.errors import NoNumber
from gavelhall.ratios import is_ratio, minus, plus, ratio_of, times, total_of, under, whole_and_rest, written
from tests.samples import NO_WHOLES, refused, same

# Lowest or not, on both sides of nought, whole ones, and ones as long as may be handed in.
RATIOS = [
    (0, 1), (0, 7), (1, 1), (-1, 1), (5, 5), (-6, 6), (3, 1), (-3, 1), (6, 3), (-6, 3), (1, 2), (-1, 2), (2, 4),
    (-2, 4), (3, 6), (7, 2), (-7, 2), (14, 4), (-14, 4), (1, 3), (-1, 3), (2, 3), (-5, 6), (10, 15), (-10, 15),
    (99, 100), (10 ** 60 + 7, 10 ** 60), (-10 ** 120, 10 ** 119 + 3), (10 ** 120, 10 ** 120), (1, 10 ** 120),
    (-1, 10 ** 120),
]


def lowest(fraction):
    return (fraction.numerator, fraction.denominator)


class IsRatio(unittest.TestCase):
    def test_those_that_are(self):
        for one in [(2, 4), (-3, 1)] + RATIOS:
            with self.subTest(one):
                self.assertIs(is_ratio(one), True)

    def test_those_of_the_document_that_are_not(self):
        for one in ((1, 0), (1, -2), (True, 2), (1, True), (1,), [1, 2], 5, "1/2", None):
            with self.subTest(one):
                self.assertIs(is_ratio(one), False)

    def test_bottoms_of_nought_and_below(self):
        for one in ((0, 0), (-1, 0), (0, -1), (-1, -1), (3, -10 ** 120)):
            with self.subTest(one):
                self.assertIs(is_ratio(one), False)

    def test_other_lengths_and_kinds(self):
        for one in ((), (1, 2, 3), (1, 2, 1, 2), [], [1], [1, 2, 3], ((1, 2),), {1: 2}, {1, 2}, "", "12", 0, 1, -5,
                    True, False, range(1, 3), b"12"):
            with self.subTest(one):
                self.assertIs(is_ratio(one), False)

    def test_what_is_no_whole_number_at_either_place(self):
        for what, thing in NO_WHOLES:
            with self.subTest(what):
                self.assertIs(is_ratio((thing, 2)), False)
                self.assertIs(is_ratio((2, thing)), False)
                self.assertIs(is_ratio((thing, thing)), False)

    def test_what_is_handed_in_stays(self):
        handed = [1, 2]
        self.assertIs(is_ratio(thing=handed), False)
        self.assertEqual(handed, [1, 2])


class RatioOf(unittest.TestCase):
    def test_the_document_s(self):
        same(self, ratio_of(3, -6), (-1, 2))
        same(self, ratio_of(-3, -6), (1, 2))
        same(self, ratio_of(0, -5), (0, 1))
        same(self, ratio_of(4), (4, 1))

    def test_nought_and_whole_numbers(self):
        for bottom in (1, 2, 5, 10 ** 120, -1, -2, -10 ** 120):
            with self.subTest(bottom):
                same(self, ratio_of(0, bottom), (0, 1))
        for top in (0, 1, -1, 7, -7, 10 ** 120):
            with self.subTest(top):
                same(self, ratio_of(top), (top, 1))
                same(self, ratio_of(top * 6, 6), (top, 1))
                same(self, ratio_of(top * 6, -6), (-top, 1))

    def test_all_signs(self):
        for top in range(-24, 25):
            for bottom in range(-24, 25):
                if bottom != 0:
                    with self.subTest(top=top, bottom=bottom):
                        same(self, ratio_of(top, bottom), lowest(Fraction(top, bottom)))

    def test_it_is_lowest_with_a_bottom_from_one_on(self):
        for top, bottom in RATIOS:
            for sign in (1, -1):
                told = ratio_of(top, sign * bottom)
                with self.subTest(top=top, bottom=sign * bottom):
                    self.assertIs(is_ratio(told), True)
                    self.assertEqual(math.gcd(told[0], told[1]), 1)
                    self.assertEqual(Fraction(told[0], told[1]), Fraction(top, sign * bottom))

    def test_the_same_number_is_the_same_tuple(self):
        for top, bottom in RATIOS:
            for factor in (2, -3, 10 ** 60):
                with self.subTest(top=top, bottom=bottom, factor=factor):
                    same(self, ratio_of(top * factor, bottom * factor), ratio_of(top, bottom))

    def test_by_the_names_of_its_arguments(self):
        same(self, ratio_of(top=2, bottom=4), (1, 2))
        same(self, ratio_of(top=2), (2, 1))

    def test_a_bottom_of_nought(self):
        for top in (0, 1, -1, 5, 10 ** 120):
            with self.subTest(top):
                refused(self, NoNumber, ratio_of, top, 0)

    def test_what_is_no_whole_number_at_either_place(self):
        for what, thing in NO_WHOLES:
            with self.subTest(what):
                refused(self, NoNumber, ratio_of, thing, 1)
                refused(self, NoNumber, ratio_of, thing, -2)
                refused(self, NoNumber, ratio_of, thing, 0)
                refused(self, NoNumber, ratio_of, 1, thing)
                refused(self, NoNumber, ratio_of, 0, thing)
                refused(self, NoNumber, ratio_of, thing, thing)
                refused(self, NoNumber, ratio_of, thing)

    def test_once_it_is_made_good_it_is_taken(self):
        handed = [2, 0]
        refused(self, NoNumber, ratio_of, handed, 4)
        refused(self, NoNumber, ratio_of, handed[0], handed[1])
        self.assertEqual(handed, [2, 0])
        handed[1] = 4
        same(self, ratio_of(handed[0], handed[1]), (1, 2))


class Reckoning(unittest.TestCase):
    def test_sums_differences_and_products(self):
        for one in RATIOS:
            for other in RATIOS:
                first, second = Fraction(*one), Fraction(*other)
                with self.subTest(one=one, other=other):
                    same(self, plus(one, other), lowest(first + second))
                    same(self, minus(one, other), lowest(first - second))
                    same(self, times(one, other), lowest(first * second))

    def test_some_written_out(self):
        same(self, plus((1, 2), (1, 3)), (5, 6))
        same(self, plus((1, 6), (1, 3)), (1, 2))
        same(self, plus((2, 4), (2, 4)), (1, 1))
        same(self, plus((1, 2), (-1, 2)), (0, 1))
        same(self, minus((1, 2), (1, 3)), (1, 6))
        same(self, minus((1, 3), (1, 2)), (-1, 6))
        same(self, minus((2, 4), (3, 6)), (0, 1))
        same(self, times((2, 3), (3, 4)), (1, 2))
        same(self, times((-2, 4), (2, 1)), (-1, 1))
        same(self, times((0, 9), (-7, 2)), (0, 1))

    def test_by_the_names_of_their_arguments(self):
        same(self, plus(one=(1, 2), other=(1, 3)), (5, 6))
        same(self, minus(one=(1, 2), other=(1, 3)), (1, 6))
        same(self, times(one=(1, 2), other=(1, 3)), (1, 6))
        self.assertIs(under(one=(1, 2), other=(1, 3)), False)


class TotalOf(unittest.TestCase):
    def test_of_none(self):
        same(self, total_of([]), (0, 1))

    def test_of_one(self):
        for one in RATIOS:
            with self.subTest(one):
                same(self, total_of([one]), lowest(Fraction(*one)))

    def test_of_several(self):
        same(self, total_of([(1, 2), (1, 3), (1, 6)]), (1, 1))
        same(self, total_of([(2, 4), (-1, 2), (0, 3)]), (0, 1))
        same(self, total_of([(1, 2), (1, 2), (1, 2)]), (3, 2))
        same(self, total_of(RATIOS), lowest(sum([Fraction(*one) for one in RATIOS])))

    def test_the_list_stays_as_it_was(self):
        handed = [(2, 4), (-6, 3), (0, 7)]
        same(self, total_of(ratios=handed), (-3, 2))
        same(self, handed, [(2, 4), (-6, 3), (0, 7)])
        same(self, total_of(handed), (-3, 2))

    def test_what_was_told_stays_as_it_was(self):
        handed = [(1, 2)]
        told = total_of(handed)
        handed.append((1, 2))
        same(self, told, (1, 2))
        same(self, total_of(handed), (1, 1))
        same(self, total_of([]), (0, 1))


class Under(unittest.TestCase):
    def test_each_two(self):
        for one in RATIOS:
            for other in RATIOS:
                with self.subTest(one=one, other=other):
                    self.assertIs(under(one, other), Fraction(*one) < Fraction(*other))

    def test_the_same_number_in_other_terms(self):
        for one, other in (((1, 2), (2, 4)), ((0, 1), (0, 9)), ((-6, 3), (-2, 1)), ((10, 15), (2, 3)), ((3, 1), (3, 1))):
            with self.subTest(one=one, other=other):
                self.assertIs(under(one, other), False)
                self.assertIs(under(other, one), False)

    def test_some_written_out(self):
        self.assertIs(under((1, 3), (1, 2)), True)
        self.assertIs(under((1, 2), (1, 3)), False)
        self.assertIs(under((-1, 2), (-1, 3)), True)
        self.assertIs(under((-1, 3), (-1, 2)), False)
        self.assertIs(under((-1, 10 ** 120), (0, 5)), True)
        self.assertIs(under((10 ** 120 - 1, 10 ** 120), (1, 1)), True)


class WholeAndRest(unittest.TestCase):
    def test_the_document_s(self):
        same(self, whole_and_rest((7, 2)), (3, (1, 2)))
        same(self, whole_and_rest((-7, 2)), (-4, (1, 2)))
        same(self, whole_and_rest((6, 3)), (2, (0, 1)))

    def test_whole_ones(self):
        for whole in (0, 1, -1, 12, -12):
            for bottom in (1, 2, 5):
                with self.subTest(whole=whole, bottom=bottom):
                    same(self, whole_and_rest((whole * bottom, bottom)), (whole, (0, 1)))

    def test_those_that_are_not_lowest(self):
        same(self, whole_and_rest((14, 4)), (3, (1, 2)))
        same(self, whole_and_rest((-14, 4)), (-4, (1, 2)))
        same(self, whole_and_rest((-2, 6)), (-1, (2, 3)))
        same(self, whole_and_rest((2, 6)), (0, (1, 3)))

    def test_each_by_what_it_must_be(self):
        for one in RATIOS:
            exact = Fraction(*one)
            whole = math.floor(exact)
            with self.subTest(one):
                same(self, whole_and_rest(one=one), (whole, lowest(exact - whole)))


class Written(unittest.TestCase):
    def test_the_document_s(self):
        for one, asked in (((3, 1), "3"), ((-3, 1), "-3"), ((0, 1), "0"), ((7, 2), "7/2"), ((-7, 2), "-7/2")):
            with self.subTest(one):
                same(self, written(one), asked)

    def test_those_that_are_not_lowest(self):
        for one, asked in (
            ((6, 2), "3"), ((-6, 2), "-3"), ((0, 9), "0"), ((14, 4), "7/2"), ((-14, 4), "-7/2"), ((2, 4), "1/2"),
            ((5, 5), "1"), ((-5, 5), "-1"),
        ):
            with self.subTest(one):
                same(self, written(one), asked)

    def test_long_ones(self):
        same(self, written((10 ** 120, 1)), "1" + "0" * 120)
        same(self, written((-1, 10 ** 120)), "-1/1" + "0" * 120)

    def test_each_by_what_it_must_be(self):
        for one in RATIOS:
            with self.subTest(one):
                same(self, written(one=one), str(Fraction(*one)))


if __name__ == "__main__":
    unittest.main()
