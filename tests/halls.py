"""Halls to ask about, and what is to be told of them, found by going through all plans."""

import random

GREAT = 10 ** 12


def all_plans(offers):
    """Each plan once: for each bidder nothing or one of its offers, no thing to two."""
    if not offers:
        return [[]]
    plans = []
    for plan in all_plans(offers[:-1]):
        given = sum(plan)
        plans.append(plan + [0])
        plans.extend([plan + [bundle] for bundle, amount in offers[-1] if not bundle & given])
    return plans


def amounts_by(offers, plan):
    amounts = []
    for listed, bundle in zip(offers, plan):
        amounts.append(0 if bundle == 0 else [amount for offered, amount in listed if offered == bundle][0])
    return amounts


def greatest_by_hand(offers):
    return max(sum(amounts_by(offers, plan)) for plan in all_plans(offers))


def is_earlier(offers, one, other):
    """By the rule of 4.4: the first bidder to whom they give unlike bundles says it."""
    for listed, here, there in zip(offers, one, other):
        if here != there:
            amount_here = amounts_by([listed], [here])[0]
            amount_there = amounts_by([listed], [there])[0]
            return here < there if amount_here == amount_there else amount_here > amount_there
    return False


def best_plans(offers):
    worth = greatest_by_hand(offers)
    return [plan for plan in all_plans(offers) if sum(amounts_by(offers, plan)) == worth]


def first_by_hand(offers):
    plans = best_plans(offers)
    first = [one for one in plans if not any(is_earlier(offers, other, one) for other in plans)]
    assert len(first) == 1
    return first[0]


def without_by_hand(offers, who):
    return offers[:who] + [[]] + offers[who + 1:]


def random_hall(chance, many, bidders, most, amounts):
    """A hall of so many things and bidders, each with up to most offers, by these amounts."""
    offers = []
    for k in range(bidders):
        number = min(chance.randrange(most + 1), 2 ** many - 1)
        bundles = sorted(chance.sample(range(1, 2 ** many), number))
        offers.append([(bundle, chance.choice(amounts)) for bundle in bundles])
    return many, offers


def halls_by_chance(seed, number, bidders=6, most=4):
    """Some with amounts that are mostly alike, so that many plans come to the same."""
    chance = random.Random(seed)
    halls = []
    for k in range(number):
        amounts = chance.choice(([1], [1, 2], [1, 2, 3, 4], range(1, 20), [1, 5, GREAT - 1, GREAT]))
        halls.append(random_hall(chance, chance.randrange(7), chance.randrange(bidders + 1), most, amounts))
    return halls


# (what it is, how many things, the offers)
EDGES = [
    ("no things and no bidders", 0, []),
    ("things and no bidders", 3, []),
    ("bidders and no things", 0, [[], [], []]),
    ("six bidders without offers", 6, [[], [], [], [], [], []]),
    ("one bidder, one thing", 1, [[(1, 1)]]),
    ("the greatest amount", 1, [[(1, GREAT)]]),
    ("two alike", 1, [[(1, 5)], [(1, 5)]]),
    ("two alike behind one without offers", 1, [[], [(1, 5)], [(1, 5)]]),
    ("the second one offers more", 1, [[(1, 5)], [(1, 6)]]),
    ("six alike for one thing", 1, [[(1, 1)]] * 6),
    ("the document's with two things", 2, [[(1, 4), (2, 4)], [(1, 3)]]),
    ("the document's with three bidders", 2, [[(3, 4)], [(1, 4)], [(2, 4)]]),
    ("no two go together", 3, [[(3, 1)], [(6, 1)], [(5, 1)]]),
    ("a bundle with a lesser amount than one that it holds", 2, [[(1, 5), (3, 2)], [(2, 1), (3, 1)]]),
    ("the lesser amount wins", 2, [[(1, 5), (2, 1), (3, 3)], [(1, 7)]]),
    ("a thing to nobody", 3, [[(1, 5)], [(4, 5)]]),
    ("an amount for the one, an amount for all", 2, [[(3, 10)], [(1, 4)], [(2, 6)]]),
    ("an amount for all, behind", 2, [[(1, 4)], [(2, 6)], [(3, 10)]]),
    ("alike amounts for all bundles", 3, [[(bundle, 1) for bundle in range(1, 8)]] * 3),
    ("each wants each", 6, [[(1 << number, 1) for number in range(6)]] * 6),
    ("great amounts", 6, [[(1 << number, GREAT - number) for number in range(6)]] * 6),
    ("all for one", 6, [[(63, GREAT)], [(63, GREAT)], [(1, 1)], [(63, GREAT - 1)], [], [(62, GREAT - 1)]]),
    ("the last one alone", 2, [[], [], [], [], [], [(2, 3)]]),
    ("the greater amount against the lesser bundle", 2, [[(1, 4), (2, 5)], [(1, 5), (2, 4)]]),
    ("alike amounts, the lesser bundle", 2, [[(1, 4), (2, 4)], [(1, 4), (2, 4)]]),
    ("nothing for the first comes to the same", 2, [[(1, 2)], [(1, 1), (2, 1), (3, 3)]]),
]

SOME = [(many, offers) for what, many, offers in EDGES] + halls_by_chance(41, 150)
