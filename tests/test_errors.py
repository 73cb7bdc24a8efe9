"""0.4, 0.1 and the interface of gavelhall/errors.py."""

import unittest

from gavelhall.errors import (
    BadStep, HallError, NoBid, NoBundle, NoName, NoNumber, NoPaper, NoRow, NoText, TooLate, TooMany,
)
from tests.samples import NO_WHOLES, REFUSALS

MADE_WITH_TEXT = [NoNumber, NoBundle, NoBid, NoText, NoRow, BadStep, TooLate]


class WhatStandsUnderWhat(unittest.TestCase):
    def test_hall_error_stands_right_under_value_error(self):
        self.assertEqual(HallError.__bases__, (ValueError,))

    def test_each_stands_under_hall_error(self):
        for one in REFUSALS:
            with self.subTest(one.__name__):
                self.assertTrue(issubclass(one, HallError))
                self.assertIsNot(one, HallError)

    def test_none_stands_under_another_one(self):
        for one in REFUSALS:
            for other in REFUSALS:
                if one is not other:
                    with self.subTest(one.__name__, other=other.__name__):
                        self.assertFalse(issubclass(one, other))

    def test_hall_error_stands_under_none_of_them(self):
        for one in REFUSALS:
            with self.subTest(one.__name__):
                self.assertFalse(issubclass(HallError, one))

    def test_they_are_ten(self):
        self.assertEqual(len({one.__name__ for one in REFUSALS}), 10)


class HowTheyAreMade(unittest.TestCase):
    def test_those_made_with_a_text(self):
        for one in MADE_WITH_TEXT:
            for kind in (one, HallError, ValueError):
                with self.subTest(one.__name__, taken_as=kind.__name__):
                    with self.assertRaises(kind) as taken:
                        raise one("some words")
                    self.assertIs(type(taken.exception), one)

    def test_those_made_with_a_field(self):
        for one, field in ((NoName, "ann"), (NoPaper, [1, 0]), (TooMany, 7)):
            for kind in (one, HallError, ValueError):
                with self.subTest(one.__name__, taken_as=kind.__name__):
                    with self.assertRaises(kind) as taken:
                        raise one(field)
                    self.assertIs(type(taken.exception), one)

    def test_hall_error_with_a_text(self):
        with self.assertRaises(ValueError):
            raise HallError("some words")

    def test_each_can_be_shown(self):
        for one in MADE_WITH_TEXT:
            self.assertIsInstance(str(one("some words")), str)
        for made in (NoName("ann"), NoPaper([]), TooMany(7)):
            self.assertIsInstance(str(made), str)


class Fields(unittest.TestCase):
    def test_name_is_just_what_was_handed_in(self):
        self.assertEqual(NoName("ann").name, "ann")
        self.assertEqual(NoName(name="").name, "")
        for what, thing in NO_WHOLES + [("a number", 12)]:
            with self.subTest(what):
                self.assertIs(NoName(thing).name, thing)

    def test_a_name_that_cannot_be_shown_does_not_harm_the_words(self):
        for what, thing in NO_WHOLES:
            with self.subTest(what):
                self.assertIsInstance(str(NoName(thing)), str)

    def test_plan_is_a_list(self):
        self.assertEqual(NoPaper([]).plan, [])
        made = NoPaper(plan=[2, 0, 1])
        self.assertEqual(made.plan, [2, 0, 1])
        self.assertIs(type(made.plan), list)

    def test_plan_is_the_asker_s_own(self):
        handed = [2, 0, 1]
        made = NoPaper(handed)
        handed.append(4)
        self.assertEqual(made.plan, [2, 0, 1])
        made.plan.append(8)
        self.assertEqual(handed, [2, 0, 1, 4])

    def test_number(self):
        self.assertEqual(TooMany(7).number, 7)
        self.assertEqual(TooMany(number=31).number, 31)

    def test_two_of_a_class_know_nothing_of_one_another(self):
        first = NoName("ann")
        second = NoName("bob")
        self.assertEqual((first.name, second.name), ("ann", "bob"))


if __name__ == "__main__":
    unittest.main()
