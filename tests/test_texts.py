"""3.4 to 3.7, and 0.1 and 0.4 as far as they speak of it: gavelhall/texts.py."""

import itertools
import random
import re
import unittest

from gavelhall.bids import AnyOf, Bid, OneOf, Only, SoMany, UpTo
from gavelhall.errors import NoText
from gavelhall.stock import Stock
from gavelhall.texts import read_bid, shown_bid
from tests.samples import NO_NAMES, NO_WHOLES, refused, same
from tests.test_bids import NAMES, made, random_bid

ROWS = [("a", "x"), ("b", "x"), ("c", "y"), ("d", "a"), ("e", "y"), ("f", "abcdefgh")]
STOCK = Stock(ROWS)
KINDS = {"x": 3, "y": 20, "a": 8, "abcdefgh": 32}

# Things and kinds that are called like the words of a text, each word once as a thing and once as a kind at least.
WORD_ROWS = [
    [("up", "nothing"), ("to", "one"), ("of", "any"), ("for", "each"), ("each", "for"), ("any", "of")],
    [("one", "up"), ("nothing", "to"), ("any", "any"), ("for", "for"), ("of", "of"), ("up", "one")],
]

GOOD = [
    "nothing", "a for 5", "a+b for 5", "f+a+c for 0", "=x for 7", "2 of a+b for 5", "1 of =y for 1000000000",
    "6 of f for 0", "up to 2 of a+b for 5 each", "up to 6 of =abcdefgh for 10 each", "any()", "one()",
    "any(a for 5)", "one(nothing)", "any(a for 5; b for 6; nothing)", "one(any(); one(); 2 of =x for 3)",
    "any(one(any(a for 5; b for 4); nothing); up to 1 of c for 3 each; one())", "any(any(any(any())))",
    "one(any(one(a for 1)); any(one(b for 2; nothing)))",
]


def facets(bid):
    """All that can be asked of a bid."""
    return repr([bid.worths(6), bid.worths(2), bid.depth(), bid.tally(), bid.spoken(), bid.words(NAMES)])


def reads(case, text, bid, stock=STOCK):
    """The text tells just this bid."""
    told = read_bid(text, stock)
    case.assertIsInstance(told, Bid)
    case.assertEqual(facets(told), facets(bid))


def no_text(case, thing, stock=STOCK):
    return refused(case, NoText, read_bid, thing, stock)


# The rules of 3.4 and the bounds of 3.6 told anew, as patterns.

NUMBER = "(?:0|[1-9][0-9]{0,9})"
PLACE = "(?:=[a-z]+|[a-z]+(?:[+][a-z]+)*)"
PLAIN = f"(?:nothing|{PLACE} for {NUMBER}|{NUMBER} of {PLACE} for {NUMBER}|up to {NUMBER} of {PLACE} for {NUMBER} each)"


def pattern(depth):
    if depth == 1:
        return f"(?:{PLAIN}|(?:any|one)[(][)])"
    inner = pattern(depth - 1)
    return f"(?:{PLAIN}|(?:any|one)[(](?:{inner}(?:; {inner})*)?[)])"


FOUR_DEEP = re.compile(pattern(4))


def good_place(place, rows):
    if place.startswith("="):
        return place[1:] in [kind for name, kind in rows]
    names = place.split("+")
    return len(set(names)) == len(names) and set(names) <= {name for name, kind in rows}


def good_plain(text, rows):
    words = text.split(" ")
    places = {1: [], 3: [0], 5: [2], 8: [4]}[len(words)]
    amounts = {1: [], 3: [2], 5: [4], 8: [6]}[len(words)]
    counts = {1: [], 3: [], 5: [0], 8: [2]}[len(words)]
    return (
        all(good_place(words[k], rows) for k in places) and all(int(words[k]) <= 10 ** 9 for k in amounts)
        and all(1 <= int(words[k]) <= 6 for k in counts)
    )


def is_text(text, rows):
    if len(text) > 2000 or not FOUR_DEEP.fullmatch(text):
        return False
    plain = [one for one in re.split("any[(]|one[(]|[)]|; ", text) if one]
    return len(plain) + text.count("(") <= 24 and all(good_plain(one, rows) for one in plain)


def looked_at(case, text, rows, stock):
    """Taken or refused as the rules told anew say."""
    if is_text(text, rows):
        case.assertIsInstance(read_bid(text, stock), Bid)
    else:
        no_text(case, text, stock)


class Forms(unittest.TestCase):
    def test_each_form(self):
        reads(self, "nothing", Bid())
        reads(self, "a for 5", Only(1, 5))
        reads(self, "2 of a+b for 5", SoMany(3, 2, 5))
        reads(self, "up to 2 of a+b for 5 each", UpTo(3, 2, 5))
        reads(self, "any()", AnyOf([]))
        reads(self, "one()", OneOf([]))
        reads(self, "any(a for 5; b for 4)", AnyOf([Only(1, 5), Only(2, 4)]))
        reads(self, "one(a for 5; b for 4)", OneOf([Only(1, 5), Only(2, 4)]))

    def test_by_the_names_of_the_arguments(self):
        self.assertEqual(shown_bid(bid=read_bid(text="b for 5", stock=STOCK), stock=STOCK), "b for 5")

    def in_each_place(self, place, bundle, stock=STOCK):
        with self.subTest(place):
            reads(self, place + " for 5", Only(bundle, 5), stock)
            reads(self, "2 of " + place + " for 5", SoMany(bundle, 2, 5), stock)
            reads(self, "up to 2 of " + place + " for 5 each", UpTo(bundle, 2, 5), stock)

    def test_names_in_any_order(self):
        for many in (1, 2, 3):
            for numbers in itertools.permutations(range(6), many):
                self.in_each_place("+".join([NAMES[k] for k in numbers]), sum(2 ** k for k in numbers))
        for numbers in ((5, 4, 3, 2, 1, 0), (0, 1, 2, 3, 4, 5), (3, 0, 5, 1, 4, 2)):
            self.in_each_place("+".join([NAMES[k] for k in numbers]), 63)

    def test_kinds(self):
        for kind, bundle in KINDS.items():
            self.in_each_place("=" + kind, bundle)

    def test_a_thing_and_a_kind_that_are_called_alike(self):
        self.in_each_place("a", 1)
        self.in_each_place("=a", 8)

    def test_names_that_begin_one_another(self):
        stock = Stock([("a", "ab"), ("ab", "a"), ("abc", "ab"), ("abcdefgh", "abcdefgh")])
        for place, bundle in (
            ("a", 1), ("ab", 2), ("abc", 4), ("abcdefgh", 8), ("abc+a", 5), ("abcdefgh+ab", 10), ("=a", 2), ("=ab", 5),
            ("=abcdefgh", 8),
        ):
            self.in_each_place(place, bundle, stock)

    def test_amounts_of_one_to_ten_figures(self):
        amounts = [0, 1, 2, 3, 4, 5, 6, 7, 8, 9, 10 ** 9]
        for figures in range(2, 10):
            amounts += [10 ** (figures - 1), int("1234567890"[:figures]), 10 ** figures - 1]
        for amount in amounts:
            with self.subTest(amount):
                reads(self, f"a for {amount}", Only(1, amount))
                reads(self, f"1 of a for {amount}", SoMany(1, 1, amount))
                reads(self, f"up to 1 of a for {amount} each", UpTo(1, 1, amount))

    def test_how_many(self):
        for number in range(1, 7):
            with self.subTest(number):
                reads(self, f"{number} of =x for 5", SoMany(3, number, 5))
                reads(self, f"up to {number} of =x for 5 each", UpTo(3, number, 5))

    def test_lists_of_one_and_of_many(self):
        plain = ["a for 1", "nothing", "1 of b for 2", "up to 3 of =y for 4 each", "any()", "one()"]
        bids = [Only(1, 1), Bid(), SoMany(2, 1, 2), UpTo(20, 3, 4), AnyOf([]), OneOf([])]
        for many in range(1, 7):
            for begin in range(6):
                texts = (plain + plain)[begin:begin + many]
                told = (bids + bids)[begin:begin + many]
                with self.subTest(many=many, begin=begin):
                    reads(self, "any(" + "; ".join(texts) + ")", AnyOf(told))
                    reads(self, "one(" + "; ".join(texts) + ")", OneOf(told))

    def test_within_one_another(self):
        reads(self, "any(one(a for 5; b for 4); up to 1 of c for 3 each)",
              AnyOf([OneOf([Only(1, 5), Only(2, 4)]), UpTo(4, 1, 3)]))
        reads(self, "one(any(); any(one()); any(one(any())))",
              OneOf([AnyOf([]), AnyOf([OneOf([])]), AnyOf([OneOf([AnyOf([])])])]))
        reads(self, "one(any(one(a for 1; b for 2); c for 3); any(d for 4; one(e for 5)); f for 6)",
              OneOf([
                  AnyOf([OneOf([Only(1, 1), Only(2, 2)]), Only(4, 3)]), AnyOf([Only(8, 4), OneOf([Only(16, 5)])]),
                  Only(32, 6),
              ]))

    def test_a_stock_without_things(self):
        stock = Stock([])
        reads(self, "nothing", Bid(), stock)
        reads(self, "any(nothing; one())", AnyOf([Bid(), OneOf([])]), stock)
        for text in ("a for 5", "=x for 5", " for 5", "= for 5", "1 of a for 5"):
            with self.subTest(text):
                no_text(self, text, stock)


class CalledLikeWords(unittest.TestCase):
    def test_the_document_s(self):
        stock = Stock(WORD_ROWS[0])
        reads(self, "up for 5", Only(1, 5), stock)
        reads(self, "of+for for 5", Only(12, 5), stock)
        reads(self, "2 of up+to for 3", SoMany(3, 2, 3), stock)
        reads(self, "nothing for 1", Only(2, 1), Stock(WORD_ROWS[1]))

    def test_each_word_in_each_place(self):
        for rows in WORD_ROWS:
            stock = Stock(rows)
            for place in [name for name, kind in rows] + ["=" + kind for name, kind in rows]:
                bundle = stock.kind_of(place[1:]) if place[0] == "=" else 2 ** stock.number_of(place)
                with self.subTest(place):
                    reads(self, place + " for 5", Only(bundle, 5), stock)
                    reads(self, "2 of " + place + " for 5", SoMany(bundle, 2, 5), stock)
                    reads(self, "up to 2 of " + place + " for 5 each", UpTo(bundle, 2, 5), stock)
                    reads(self, "any(" + place + " for 5; nothing)", AnyOf([Only(bundle, 5), Bid()]), stock)
                    reads(self, "one(nothing; " + place + " for 5)", OneOf([Bid(), Only(bundle, 5)]), stock)

    def test_two_words_in_each_place(self):
        for rows in WORD_ROWS:
            stock = Stock(rows)
            for one, other in itertools.permutations([name for name, kind in rows], 2):
                bundle = 2 ** stock.number_of(one) + 2 ** stock.number_of(other)
                with self.subTest(one=one, other=other):
                    reads(self, f"{one}+{other} for 5", Only(bundle, 5), stock)
                    reads(self, f"2 of {one}+{other} for 5", SoMany(bundle, 2, 5), stock)
                    reads(self, f"up to 2 of {one}+{other} for 5 each", UpTo(bundle, 2, 5), stock)

    def test_a_word_stays_a_word_where_no_thing_is_called_so(self):
        for text in ("up for 5", "of+for for 5", "2 of up+to for 3", "nothing for 1", "any for 5", "=one for 5"):
            with self.subTest(text):
                no_text(self, text)

    def test_words_in_any_order_are_read_by_the_rules_alone(self):
        words = ["up", "to", "of", "for", "each", "any", "2", "nothing"]
        for rows in WORD_ROWS:
            stock = Stock(rows)
            for many in (1, 2, 3, 4):
                for told in itertools.product(words, repeat=many):
                    looked_at(self, " ".join(told), rows, stock)
            for told in itertools.product(["up", "of", "for", "2"], repeat=5):
                looked_at(self, " ".join(told), rows, stock)

    def test_the_longest_form_with_a_word_changed(self):
        rows = WORD_ROWS[0]
        stock = Stock(rows)
        form = ["up", "to", "2", "of", "for", "for", "5", "each"]
        for place in range(8):
            for word in ("up", "to", "of", "for", "each", "2", "=each", "", "for+of"):
                looked_at(self, " ".join(form[:place] + [word] + form[place + 1:]), rows, stock)


class NoTexts(unittest.TestCase):
    def test_what_is_no_text(self):
        for what, thing in NO_WHOLES:
            if not isinstance(thing, str):
                with self.subTest(what):
                    no_text(self, thing)
        for thing in (0, 7, -1, 10 ** 9, ["nothing"], ("nothing",), ("a", "for", "5"), {"nothing": 1}, Bid(), STOCK):
            no_text(self, thing)

    def test_no_signs_and_blanks_alone(self):
        for text in ("", " ", "  ", "\n", "\t", ";", "; ", "(", ")", "()", "+", "=", "0", "5"):
            with self.subTest(text):
                no_text(self, text)

    def test_other_texts(self):
        for text in (
            "a", "a for", "for 5", "for", "a 5", "a for 5 6", "a for 5 each", "a for b", "5 for a", "5 for 5", "a of 5",
            "a For 5", "A for 5", "a for five", "a for -5", "a for +5", "a for 5.", "a for 5.0", "a for 1e3",
            "a for 0x1",
            "a for 1_000", "a for 1,000", "a for =5", "a for a", "nothin", "nothings", "Nothing", "nothing for",
            "nothing 5", "nothing nothing", "2 of a", "2 of a for", "of a for 5", "2 a for 5", "2 of for 5",
            "2 of a for 5 each", "a of a for 5", "2 of a+b for", "2 of 2 for 5", "up to 2 of a for 5",
            "up 2 of a for 5 each",
            "to 2 of a for 5 each", "up to of a for 5 each", "up to 2 a for 5 each", "up to 2 of a 5 each",
            "up to 2 of a for each", "up to 2 of a for 5 every", "up to a of a for 5 each",
            "up to 2 of a for 5 each each",
            "Up to 2 of a for 5 each", "up to 2 of a for 5each", "upto 2 of a for 5 each", "up to2 of a for 5 each",
            "all(a for 5)", "ony(a for 5)", "Any(a for 5)", "(a for 5)", "any", "one", "any a for 5", "any (a for 5)",
            "any[a for 5]", "any{}", "any(a)", "any(5)", "one(any)", "any(a for 5, b for 5)", "any(a for 5: b for 5)",
            "a for 5; b for 5", "nothing; nothing", "any(a for 5) for 5", "a+any() for 5", "any()any()", "any(); any()",
            "any(a for 5); any(b for 5)", "any(a for 5)b for 5)", "any(nothing)nothing", "nothing()", "any(nothing())",
        ):
            with self.subTest(text):
                no_text(self, text)

    def test_blanks_too_many_and_too_few(self):
        for text in GOOD:
            for place in range(len(text) + 1):
                with self.subTest(text, place=place):
                    no_text(self, text[:place] + " " + text[place:])
            for place, sign in enumerate(text):
                if sign == " ":
                    with self.subTest(text, without=place):
                        no_text(self, text[:place] + text[place + 1:])

    def test_tabs_line_ends_and_other_signs(self):
        for text in GOOD:
            for sign in "\t\n\r\v\f\x00!\"#%&'*,-./:<>?@[]^_`{|}~AZ\\":
                for place in range(len(text) + 1):
                    no_text(self, text[:place] + sign + text[place:])
                for place, blank in enumerate(text):
                    if blank == " ":
                        no_text(self, text[:place] + sign + text[place + 1:])

    def test_brackets_too_many_and_too_few(self):
        for text in GOOD:
            for bracket in "()":
                for place in range(len(text) + 1):
                    no_text(self, text[:place] + bracket + text[place:])
            for place, sign in enumerate(text):
                if sign in "()":
                    with self.subTest(text, without=place):
                        no_text(self, text[:place] + text[place + 1:])

    def test_brackets_that_close_ahead_of_what_they_open(self):
        for text in (
            ")(", "any)(", "any)a for 5(", "any(a for 5)(b for 5)", "any(a for 5); one(b for 5)", "any()()", "any())(",
            "any(a for 5; )b for 5(", "any(any(a for 5)", "any(a for 5))", "one(one()", "any(one(); any)()",
        ):
            with self.subTest(text):
                no_text(self, text)

    def test_what_parts_a_list(self):
        reads(self, "any(a for 5; b for 6)", AnyOf([Only(1, 5), Only(2, 6)]))
        for text in (
            "any(a for 5;b for 6)", "any(a for 5 b for 6)", "any(a for 5 ;b for 6)", "any(a for 5 ; b for 6)",
            "any(a for 5;  b for 6)", "any(a for 5;\tb for 6)", "any(a for 5;\nb for 6)", "any(a for 5;; b for 6)",
            "any(a for 5; ; b for 6)", "any(; a for 5)", "any(a for 5; )", "any(a for 5;)", "any(;a for 5)", "any(;)",
            "any(; )", "any( )", "any(; ; )", "any(any();any())", "any(any() any())", "any(any()any())",
            "one(any(a for 5);b for 6)", "one(any(;); b for 6)", "one(any(); )", "one(; any())", "any( a for 5)",
            "any(a for 5 )", "any(nothing;nothing)",
        ):
            with self.subTest(text):
                no_text(self, text)

    def test_figures(self):
        for number in (
            "", "00", "01", "05", "007", "0000000000", "0000000005", "01000000000", "00000000005", "10000000000",
            "12345678901", "99999999999", "1" * 20, "1" * 300, "-0", "-5", "+5", "5+", "a", "5a", "a5", "1 0",
            "=5", "none",
        ):
            with self.subTest(number):
                no_text(self, f"a for {number}")
                no_text(self, f"1 of a for {number}")
                no_text(self, f"up to 1 of a for {number} each")
                no_text(self, f"{number} of a for 5")
                no_text(self, f"up to {number} of a for 5 each")
                no_text(self, f"any(b for 1; a for {number})")

    def test_numbers_out_of_their_bounds(self):
        for amount in ("1000000001", "1000000010", "2000000000", "9999999999"):
            with self.subTest(amount):
                no_text(self, f"a for {amount}")
                no_text(self, f"1 of a for {amount}")
                no_text(self, f"up to 1 of a for {amount} each")
        for number in ("0", "7", "8", "9", "10", "16", "63", "1000000000", "9999999999"):
            with self.subTest(number):
                no_text(self, f"{number} of a for 5")
                no_text(self, f"up to {number} of a for 5 each")

    def test_places(self):
        for place in (
            "", "+", "=", "a+", "+a", "a++b", "+a+b", "a+b+", "a +b", "a+ b", "a + b", "a,b", "a-b", "a b", "ab",
            "aa", "g",
            "x", "abcdefgh", "abcdefghi", "A", "a+g", "g+a", "a+x", "a+a", "a+b+a", "b+a+a", "a+b+c+d+e+f+a",
            "a+b+c+d+e+f+g", "=b", "=a+b", "=x+y", "=x+=y", "a+=x", "=x+a", "==x", "=x=", "x=", "= x", "=X",
            "=abcdefghi",
            "a=x", "=z", "5", "a+5", "=5", "=x+", "=+x", "nothing", "a\n", "a+b\n", "=x\n",
        ):
            with self.subTest(place):
                no_text(self, place + " for 5")
                no_text(self, "2 of " + place + " for 5")
                no_text(self, "up to 2 of " + place + " for 5 each")
                no_text(self, "one(nothing; " + place + " for 5)")

    def test_names_that_no_stock_has(self):
        for what, thing in NO_NAMES:
            if isinstance(thing, str) and thing != "a+b":
                with self.subTest(what):
                    no_text(self, thing + " for 5")
                    no_text(self, "=" + thing + " for 5")
                    no_text(self, "b+" + thing + " for 5")

    def test_a_name_twice_in_one_place_but_not_in_two(self):
        no_text(self, "any(a+a for 5; b for 5)")
        reads(self, "any(a for 5; a for 5; b+a for 5)", AnyOf([Only(1, 5), Only(1, 5), Only(3, 5)]))

    def test_another_stock(self):
        other = Stock([("b", "y"), ("g", "g")])
        for text in ("a for 5", "=x for 5", "any(b for 5; a for 5)"):
            self.assertIsInstance(read_bid(text, STOCK), Bid)
            no_text(self, text, other)
        for text, here, there in (("b for 5", 2, 1), ("=y for 5", 20, 1)):
            reads(self, text, Only(here, 5))
            reads(self, text, Only(there, 5), other)
        reads(self, "g+b for 5", Only(3, 5), other)

    def test_a_sign_changed_put_in_or_taken_out(self):
        signs = "abfnouptyx0159+=;() "
        for text in GOOD:
            for place in range(len(text) + 1):
                looked_at(self, text[:place] + text[place + 1:], ROWS, STOCK)
                for sign in signs:
                    looked_at(self, text[:place] + sign + text[place:], ROWS, STOCK)
                    looked_at(self, text[:place] + sign + text[place + 1:], ROWS, STOCK)

    def test_pieces_of_texts_side_by_side(self):
        chance = random.Random(36)
        pieces = [
            "any(", "one(", ")", "; ", "nothing", "a", "b", "+", "=x", " for ", "5", "0", "2 of ",
            "up to 2 of ", " each",
            "a for 5", "any()", " ", ";", "a+b for 1", "1 of =y for 3", "up to 1 of c for 2 each",
        ]
        taken = 0
        for k in range(20000):
            text = "".join(chance.choice(pieces) for j in range(chance.randrange(1, 9)))
            taken += is_text(text, ROWS)
            looked_at(self, text, ROWS, STOCK)
        self.assertGreater(taken, 500)


class Bounds(unittest.TestCase):
    def test_tally_of_24_and_of_25(self):
        for word in ("any", "one"):
            for piece in ("a for 5", "nothing", "any()", "one()", "up to 1 of =x for 5 each"):
                text = word + "(" + "; ".join([piece] * 23) + ")"
                with self.subTest(text):
                    self.assertEqual(read_bid(text, STOCK).tally(), 24)
                    no_text(self, word + "(" + "; ".join([piece] * 24) + ")")

    def test_tally_of_bids_within_bids(self):
        eight = "any(" + "; ".join(["a for 1"] * 7) + ")"
        seven = "any(" + "; ".join(["a for 1"] * 6) + ")"
        self.assertEqual(read_bid(f"one({eight}; {eight}; {seven})", STOCK).tally(), 24)
        no_text(self, f"one({eight}; {eight}; {eight})")
        no_text(self, f"one({eight}; {eight}; {seven}; nothing)")
        no_text(self, "any(any(any(" + "; ".join(["nothing"] * 22) + ")))")
        self.assertEqual(read_bid("any(any(any(" + "; ".join(["nothing"] * 21) + ")))", STOCK).tally(), 24)
        no_text(self, "any(" + "; ".join(["any()"] * 280) + ")")

    def test_depth_of_4_and_of_5(self):
        for inner, own in (("", 0), ("a for 5", 1), ("nothing", 1), ("nothing; any()", 1)):
            for words in itertools.product(("any(", "one("), repeat=4):
                for brackets in range(1, 5):
                    text = "".join(words[:brackets]) + inner + ")" * brackets
                    depth = brackets + own
                    with self.subTest(text):
                        if depth <= 4:
                            self.assertEqual(read_bid(text, STOCK).depth(), depth)
                        else:
                            no_text(self, text)
                no_text(self, "any(" + "".join(words) + inner + ")))))")

    def test_the_deepest_at_each_place_of_a_list(self):
        for place in range(3):
            for deep, taken in (
                ("any(one(any()))", True), ("any(one(a for 5))", True), ("any(one(any(a for 5)))", False),
                ("any(one(any(one())))", False),
            ):
                pieces = ["nothing", "b for 5"]
                pieces.insert(place, deep)
                text = "one(" + "; ".join(pieces) + ")"
                with self.subTest(text):
                    if taken:
                        self.assertEqual(read_bid(text, STOCK).depth(), 4)
                    else:
                        no_text(self, text)

    def test_hundreds_of_brackets_in_one_another(self):
        for many in (5, 6, 10, 50, 100, 200, 300, 399, 400):
            with self.subTest(many):
                no_text(self, "any(" * many + ")" * many)
                no_text(self, "one(" * many + ")" * many)
                no_text(self, ("any(" * many)[:1999] + ")")
                no_text(self, "any(nothing; " + "any(" * (many - 1) + ")" * (many - 1) + ")")
        for text in ("any(" * 500, ")" * 2000, "(" * 2000, "(" * 1000 + ")" * 1000, "any()" * 400, "any(" + ")" * 1996,
                     "any(" * 499 + ")", "any(" + "; ".join(["any("] * 330) + ")"):
            no_text(self, text)

    def test_texts_of_2000_signs_and_of_2001(self):
        names = [letter * 8 for letter in "abcdef"]
        stock = Stock([(name, "k" * 8) for name in names])
        leaf = "up to 6 of " + "+".join(names) + " for 1000000000 each"
        longest = "any(" + "; ".join([leaf] * 23) + ")"
        self.assertEqual(len(longest), 1981)
        self.assertEqual(read_bid(longest, stock).tally(), 24)
        no_text(self, longest[:-1] + "; " + leaf + ")", stock)
        for signs in (2000, 2001, 2002, 5000, 10 ** 6):
            for text in ("a" * signs, " " * signs, "any(" + ";" * (signs - 5) + ")", "a for " + "5" * (signs - 6),
                         "a for 5" + " " * (signs - 7)):
                with self.subTest(signs):
                    self.assertEqual(len(text), signs)
                    no_text(self, text)


class Shown(unittest.TestCase):
    def shown_and_read(self, bid, text, stock):
        same(self, shown_bid(bid, stock), text)
        again = read_bid(text, stock)
        self.assertEqual(facets(again), facets(bid))
        same(self, shown_bid(again, stock), text)

    def test_each_kind(self):
        for bid, text in (
            (Bid(), "nothing"), (Only(3, 5), "a+b for 5"), (Only(63, 0), "a+b+c+d+e+f for 0"),
            (SoMany(34, 6, 10 ** 9), "6 of b+f for 1000000000"), (UpTo(20, 1, 7), "up to 1 of c+e for 7 each"),
            (AnyOf([]), "any()"), (OneOf([]), "one()"), (AnyOf([Bid()]), "any(nothing)"),
            (OneOf([Only(1, 5), AnyOf([Only(2, 4), OneOf([])])]), "one(a for 5; any(b for 4; one()))"),
        ):
            with self.subTest(text):
                self.shown_and_read(bid, text, STOCK)

    def test_bids_by_chance(self):
        chance = random.Random(37)
        seen = 0
        for k in range(3000):
            try:
                bid = made(random_bid(chance, 4))
            except ValueError:
                continue
            seen += 1
            self.shown_and_read(bid, bid.words(NAMES), STOCK)
        self.assertGreater(seen, 2000)

    def test_by_the_stock_s_names(self):
        for rows in WORD_ROWS:
            stock = Stock(rows)
            names = [name for name, kind in rows]
            for bundle in range(1, 64):
                place = "+".join([names[k] for k in range(6) if bundle // 2 ** k % 2])
                self.shown_and_read(Only(bundle, 5), f"{place} for 5", stock)
                self.shown_and_read(SoMany(bundle, 2, 5), f"2 of {place} for 5", stock)
                self.shown_and_read(UpTo(bundle, 2, 5), f"up to 2 of {place} for 5 each", stock)

    def test_a_stock_of_fewer_things(self):
        self.shown_and_read(Bid(), "nothing", Stock([]))
        self.shown_and_read(OneOf([AnyOf([])]), "one(any())", Stock([]))
        self.shown_and_read(Only(1, 5), "up for 5", Stock([("up", "to")]))

    def test_names_in_another_order_and_kinds(self):
        for text, asked in (
            ("b+a for 5", "a+b for 5"), ("f+e+d+c+b+a for 5", "a+b+c+d+e+f for 5"), ("=x for 5", "a+b for 5"),
            ("=y for 5", "c+e for 5"), ("=a for 5", "d for 5"), ("=abcdefgh for 5", "f for 5"),
            ("2 of e+c for 5", "2 of c+e for 5"), ("2 of =x for 5", "2 of a+b for 5"),
            ("up to 2 of d+a for 5 each", "up to 2 of a+d for 5 each"),
            ("up to 2 of =y for 5 each", "up to 2 of c+e for 5 each"),
            ("any(=x for 5; one(c+a for 4; =a for 3))", "any(a+b for 5; one(a+c for 4; d for 3))"),
        ):
            with self.subTest(text):
                same(self, shown_bid(read_bid(text, STOCK), STOCK), asked)
                same(self, shown_bid(read_bid(asked, STOCK), STOCK), asked)

    def test_the_longest(self):
        names = [letter * 8 for letter in "zyxwvu"]
        stock = Stock([(name, "k") for name in names])
        for several, word in ((AnyOf, "any"), (OneOf, "one")):
            text = word + "(" + "; ".join(["up to 6 of " + "+".join(names) + " for 1000000000 each"] * 23) + ")"
            self.assertEqual(len(text), 1981)
            self.shown_and_read(several([UpTo(63, 6, 10 ** 9)] * 23), text, stock)

    def test_none_is_longer(self):
        names = [letter * 8 for letter in "abcdef"]
        stock = Stock([(name, "k") for name in names])
        leaf = UpTo(63, 6, 10 ** 9)
        for outer in range(1, 22):
            inner = [leaf] * (22 - outer)
            for bids in ([leaf] * outer + [AnyOf(inner)], [OneOf(inner)] + [leaf] * outer, [AnyOf([OneOf(inner[1:])])]):
                text = shown_bid(AnyOf(bids), stock)
                self.assertLess(len(text), 1981)
                self.assertEqual(facets(read_bid(text, stock)), facets(AnyOf(bids)))


class NothingIsChanged(unittest.TestCase):
    def answers(self, stock):
        return repr([
            stock.many(), stock.names(), [stock.number_of(name) for name, kind in ROWS],
            [stock.kind_of(kind) for name, kind in ROWS],
        ])

    def test_the_stock_and_the_bid_stay(self):
        stock = Stock(ROWS)
        before = self.answers(stock)
        for text in GOOD:
            bid = read_bid(text, stock)
            looks = facets(bid)
            shown = shown_bid(bid, stock)
            shown_bid(bid, stock)
            same(self, shown_bid(bid, stock), shown)
            self.assertEqual(facets(bid), looks)
            self.assertEqual(facets(read_bid(text, stock)), looks)
            self.assertEqual(self.answers(stock), before)

    def test_told_lists_that_are_spoilt_and_rows_that_are_changed(self):
        rows = list(ROWS)
        stock = Stock(rows)
        bid = read_bid("any(b+a for 5; =y for 3)", stock)
        looks = facets(bid)
        rows[0] = ("z", "z")
        rows.reverse()
        stock.names().reverse()
        stock.names().clear()
        bid.worths(6).clear()
        self.assertEqual(facets(bid), looks)
        same(self, shown_bid(bid, stock), "any(a+b for 5; c+e for 3)")
        self.assertEqual(facets(read_bid("any(b+a for 5; =y for 3)", stock)), looks)

    def test_a_bid_s_list_that_is_changed_behind(self):
        bids = [Only(1, 5), Only(2, 4)]
        bid = OneOf(bids)
        bids.clear()
        same(self, shown_bid(bid, STOCK), "one(a for 5; b for 4)")

    def test_what_is_refused_changes_nothing_and_is_taken_when_made_good(self):
        for bad, good in (
            (None, "nothing"), ("", "nothing"), ("a for 5 ", "a for 5"), ("g for 5", "a for 5"),
            ("=z for 5", "=x for 5"),
            ("a+a for 5", "a+b for 5"), ("0 of a for 5", "1 of a for 5"),
            ("up to 7 of a for 5 each", "up to 6 of a for 5 each"),
            ("a for 1000000001", "a for 1000000000"), ("a for 05", "a for 5"), ("any(a for 5", "any(a for 5)"),
            ("any(any(any(any(any()))))", "any(any(any(any())))"),
            ("one(" + "; ".join(["nothing"] * 24) + ")", "one(" + "; ".join(["nothing"] * 23) + ")"),
        ):
            stock = Stock(ROWS)
            before = self.answers(stock)
            with self.subTest(bad):
                no_text(self, bad, stock)
                no_text(self, bad, stock)
                self.assertEqual(self.answers(stock), before)
                looks = facets(read_bid(good, STOCK))
                self.assertEqual(facets(read_bid(good, stock)), looks)

    def test_two_readings_know_nothing_of_one_another(self):
        one = read_bid("any(a for 5; b for 4)", STOCK)
        other = read_bid("any(a for 5; c for 3)", STOCK)
        same(self, shown_bid(one, STOCK), "any(a for 5; b for 4)")
        same(self, shown_bid(other, STOCK), "any(a for 5; c for 3)")


if __name__ == "__main__":
    unittest.main()
