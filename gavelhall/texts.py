"""Texts of bids: how one is read by the names and kinds of a stock, and how one is shown."""

from gavelhall.bids import AnyOf, Bid, OneOf, Only, SoMany, UpTo
from gavelhall.bundles import bundle_of
from gavelhall.errors import NoBid, NoBundle, NoName, NoText


def read_bid(text, stock):
    if not isinstance(text, str):
        raise NoText("a bid is told by a text")
    if len(text) > 2000:
        raise NoText("a text of a bid has at most 2,000 signs")
    try:
        return bid_told(text, stock, 1)
    except NoName:
        raise NoText("a text names just the things and kinds of the stock") from None
    except NoBundle:
        raise NoText("in one place a thing is named just once") from None
    except NoBid:
        raise NoText("a number is out of its bounds, or there are too many bids or too deep ones") from None


def shown_bid(bid, stock):
    return bid.words(stock.names())


def bid_told(text, stock, level):
    # No bid is made deeper than four. To look at this ahead of what stands within keeps hundreds of brackets in one
    # another from being gone down into.
    if level > 4:
        raise NoText("bids stand in one another no deeper than four")
    if text.startswith("any(") and text.endswith(")"):
        return AnyOf(bids_told(text[4:-1], stock, level + 1))
    if text.startswith("one(") and text.endswith(")"):
        return OneOf(bids_told(text[4:-1], stock, level + 1))
    return plain_bid_told(text.split(" "), stock)


def bids_told(inner, stock, level):
    if inner == "":
        return []
    return [bid_told(text, stock, level) for text in parted(inner)]


def parted(inner):
    # Brackets that don't pair need no look here: the piece that they stand in is no text of a bid.
    pieces = []
    begin = 0
    within = 0
    for place, sign in enumerate(inner):
        if sign == "(":
            within = within + 1
        elif sign == ")":
            within = within - 1
        elif within == 0 and inner.startswith("; ", place):
            pieces.append(inner[begin:place])
            begin = place + 2
    pieces.append(inner[begin:])
    return pieces


def plain_bid_told(words, stock):
    # The forms are of unlike lengths, so things that are called like their words can't make one pass for another.
    if words == ["nothing"]:
        return Bid()
    if has_form(words, [None, "for", None]):
        return Only(place_told(words[0], stock), number_told(words[2]))
    if has_form(words, [None, "of", None, "for", None]):
        return SoMany(place_told(words[2], stock), number_told(words[0]), number_told(words[4]))
    if has_form(words, ["up", "to", None, "of", None, "for", None, "each"]):
        return UpTo(place_told(words[4], stock), number_told(words[2]), number_told(words[6]))
    raise NoText("this has none of the forms of a bid's text")


def has_form(words, form):
    if len(words) != len(form):
        return False
    return all([fixed is None or fixed == word for word, fixed in zip(words, form)])


def place_told(place, stock):
    if place.startswith("="):
        return stock.kind_of(place[1:])
    return bundle_of([stock.number_of(name) for name in place.split("+")])


def number_told(word):
    if not is_figures(word):
        raise NoText("a number has one to ten figures, the first of several no 0")
    return int(word)


def is_figures(word):
    if not 1 <= len(word) <= 10 or not all(["0" <= sign <= "9" for sign in word]):
        return False
    return len(word) == 1 or not word.startswith("0")
