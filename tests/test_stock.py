"""3.1 to 3.3 and 3.8, and 0.1 and 0.4 as far as they speak of it: gavelhall/stock.py."""

import unittest

from gavelhall.errors import NoName, TooMany
from gavelhall.stock import Stock
from tests.samples import NO_NAMES, Stranger, refused, same

ROWS = [
    ("a", "fruit"), ("pear", "a"), ("abcdefgh", "abcdefgh"), ("z", "fruit"), ("fruit", "zzzzzzzz"), ("of", "a"),
]
GOOD = ["a", "z", "az", "up", "for", "nothing", "abcdefgh", "zzzzzzzz"]


def no_name(case, thing, call, *handed):
    """Refused for the sake of just this thing."""
    told = refused(case, NoName, call, *handed).name
    case.assertIs(told, thing)


class Made(unittest.TestCase):
    def test_none_to_six_rows(self):
        for many in range(7):
            stock = Stock(ROWS[:many])
            with self.subTest(many):
                same(self, stock.many(), many)
                same(self, stock.names(), [name for name, kind in ROWS[:many]])

    def test_by_the_name_of_its_argument(self):
        same(self, Stock(rows=[("a", "b")]).names(), ["a"])

    def test_names_and_kinds_of_one_to_eight_small_letters(self):
        for one in GOOD:
            for other in GOOD:
                stock = Stock([(one, other)])
                with self.subTest(name=one, kind=other):
                    same(self, stock.names(), [one])
                    same(self, stock.number_of(one), 0)
                    same(self, stock.kind_of(other), 1)

    def test_each_of_the_letters(self):
        for letter in "abcdefghijklmnopqrstuvwxyz":
            same(self, Stock([(letter, letter * 8)]).names(), [letter])

    def test_a_kind_may_come_again_and_be_called_like_a_thing(self):
        stock = Stock([("a", "b"), ("b", "a"), ("c", "b"), ("d", "d")])
        same(self, stock.names(), ["a", "b", "c", "d"])
        same(self, [stock.number_of(one) for one in "abcd"], [0, 1, 2, 3])
        same(self, [stock.kind_of(one) for one in "bad"], [5, 2, 8])


class TooManyRows(unittest.TestCase):
    def test_seven_and_more(self):
        for many in (7, 8, 12, 100):
            rows = [("a" * (k % 8 + 1) + "b" * (k // 8 % 8), "kind") for k in range(many)]
            with self.subTest(many):
                same(self, refused(self, TooMany, Stock, rows).number, many)

    def test_ahead_of_any_fault_in_them(self):
        for row in (("a", "a"), ("", ""), (7, None), ("a", ["b"]), (Stranger(), Stranger())):
            for many in (7, 9):
                same(self, refused(self, TooMany, Stock, [row] * many).number, many)
            same(self, refused(self, TooMany, Stock, ROWS + [row]).number, 7)
            same(self, refused(self, TooMany, Stock, [row] + ROWS).number, 7)


class NoNames(unittest.TestCase):
    def test_what_is_no_name_at_each_place(self):
        for what, thing in NO_NAMES:
            for place in range(6):
                rows = list(ROWS)
                rows[place] = (thing, ROWS[place][1])
                with self.subTest(what, place=place, of="name"):
                    no_name(self, thing, Stock, rows)
                rows[place] = (ROWS[place][0], thing)
                with self.subTest(what, place=place, of="kind"):
                    no_name(self, thing, Stock, rows)

    def test_alone(self):
        for what, thing in NO_NAMES:
            with self.subTest(what):
                no_name(self, thing, Stock, [(thing, "kind")])
                no_name(self, thing, Stock, [("name", thing)])

    def test_a_name_that_stands_ahead(self):
        for first in range(6):
            for second in range(first + 1, 6):
                rows = list(ROWS)
                rows[second] = (ROWS[first][0], ROWS[second][1])
                with self.subTest(first=first, second=second):
                    same(self, refused(self, NoName, Stock, rows).name, ROWS[first][0])

    def test_in_a_row_the_name_goes_ahead_of_the_kind(self):
        for what, thing in NO_NAMES:
            other = ["no name"]
            with self.subTest(what):
                no_name(self, thing, Stock, [(thing, other)])
                no_name(self, other, Stock, [(other, thing)])
                no_name(self, "a", Stock, [("a", "b"), ("a", thing)])

    def test_of_two_rows_the_first_one(self):
        for what, thing in NO_NAMES:
            other = ["no name"]
            with self.subTest(what):
                no_name(self, thing, Stock, [("a", thing), (other, "b")])
                no_name(self, thing, Stock, [(thing, "b"), ("c", other)])
                no_name(self, thing, Stock, [("a", thing), ("a", "b")])
                no_name(self, "a", Stock, [("a", "b"), ("a", "b"), (thing, "b")])
                no_name(self, thing, Stock, [("a", "b"), ("c", thing), ("a", "b")])

    def test_of_two_names_that_stand_ahead_the_first_one(self):
        same(self, refused(self, NoName, Stock, [("a", "k"), ("b", "k"), ("b", "k"), ("a", "k")]).name, "b")
        same(self, refused(self, NoName, Stock, [("a", "k"), ("b", "k"), ("a", "k"), ("b", "k")]).name, "a")

    def test_once_made_good_they_are_taken(self):
        rows = [("a", "b"), ("a", "")]
        same(self, refused(self, NoName, Stock, rows).name, "a")
        rows[1] = ("c", "")
        same(self, refused(self, NoName, Stock, rows).name, "")
        same(self, rows, [("a", "b"), ("c", "")])
        rows[1] = ("c", "b")
        stock = Stock(rows)
        same(self, (stock.names(), stock.kind_of("b")), (["a", "c"], 3))
        rows = ROWS + [("more", "b")]
        same(self, refused(self, TooMany, Stock, rows).number, 7)
        rows.pop()
        same(self, Stock(rows).many(), 6)


class Asked(unittest.TestCase):
    def answers(self, stock):
        same(self, stock.many(), 6)
        same(self, stock.names(), ["a", "pear", "abcdefgh", "z", "fruit", "of"])
        for number, row in enumerate(ROWS):
            same(self, stock.number_of(row[0]), number)
        for kind, asked in (("fruit", 9), ("a", 34), ("abcdefgh", 4), ("zzzzzzzz", 16)):
            same(self, stock.kind_of(kind), asked)
        for name in ("zzzzzzzz", "b", "ab", "pea", "pears", "abcdefg"):
            no_name(self, name, stock.number_of, name)
        for kind in ("pear", "z", "of", "b", "fru", "fruits"):
            no_name(self, kind, stock.kind_of, kind)

    def test_each_name_and_kind(self):
        self.answers(Stock(ROWS))
        same(self, Stock(ROWS).number_of(name="z"), 3)
        same(self, Stock(ROWS).kind_of(kind="a"), 34)

    def test_all_of_one_kind(self):
        for many in range(1, 7):
            stock = Stock([(name, "k") for name in "abcdef"[:many]])
            same(self, stock.kind_of("k"), 2 ** many - 1)

    def test_whatever_else_is_asked(self):
        for rows in (ROWS, ROWS[:1], []):
            stock = Stock(rows)
            for what, thing in NO_NAMES + [("another name", "other")]:
                with self.subTest(what, rows=len(rows)):
                    no_name(self, thing, stock.number_of, thing)
                    no_name(self, thing, stock.kind_of, thing)

    def test_a_stock_without_things(self):
        stock = Stock([])
        same(self, stock.many(), 0)
        same(self, stock.names(), [])
        for one in ("a", "fruit"):
            no_name(self, one, stock.number_of, one)
            no_name(self, one, stock.kind_of, one)

    def test_rows_that_are_changed_and_names_that_are_spoilt(self):
        rows = list(ROWS)
        stock = Stock(rows)
        same(self, rows, ROWS)
        rows[0] = ("b", "pear")
        rows.reverse()
        rows.append(("more", "more"))
        self.answers(stock)
        told = stock.names()
        told[0] = "b"
        told.append("more")
        self.answers(stock)
        rows.clear()
        stock.names().clear()
        self.answers(stock)

    def test_what_is_refused_changes_nothing(self):
        stock = Stock(ROWS)
        for what, thing in NO_NAMES + [("another name", "other")]:
            refused(self, NoName, stock.number_of, thing)
            refused(self, NoName, stock.kind_of, thing)
        self.answers(stock)

    def test_two_stocks_know_nothing_of_one_another(self):
        one = Stock([("a", "k"), ("b", "k")])
        other = Stock([("b", "k")])
        same(self, (one.number_of("b"), other.number_of("b")), (1, 0))
        same(self, (one.kind_of("k"), other.kind_of("k")), (3, 1))
        self.answers(Stock(ROWS))


if __name__ == "__main__":
    unittest.main()
