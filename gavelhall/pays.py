"""Pays: each bidder pays what the others lose by it."""

from gavelhall.winners import amount_of, greatest_of, winners_of


def without(offers, who):
    return [[] if number == who else list(listed) for number, listed in enumerate(offers)]


def receipts_of(many, offers):
    worth = greatest_of(many, offers)
    plan = winners_of(many, offers)
    receipts = []
    for who, bundle in enumerate(plan):
        amount = amount_of(offers[who], bundle)
        lacking = greatest_of(many, without(offers, who))
        beside = worth - amount
        receipts.append((bundle, amount, lacking, beside, lacking - beside))
    return receipts


def pays_of(many, offers):
    return [receipt[4] for receipt in receipts_of(many, offers)]
