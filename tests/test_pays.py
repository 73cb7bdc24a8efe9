"""4.6 to 4.10 and 4.15, and 0.1 as far as it speaks of it: gavelhall/pays.py."""

import unittest

from gavelhall.pays import pays_of, receipts_of, without
from gavelhall.winners import greatest_of, winners_of
from tests.halls import (
    EDGES, GREAT, SOME, amounts_by, best_plans, first_by_hand, greatest_by_hand, halls_by_chance, without_by_hand,
)
from tests.samples import same


def receipts_by_hand(offers):
    plan = first_by_hand(offers)
    amounts = amounts_by(offers, plan)
    receipts = []
    for who, bundle in enumerate(plan):
        lacking = greatest_by_hand(without_by_hand(offers, who))
        others = sum(amounts[:who] + amounts[who + 1:])
        receipts.append((bundle, amounts[who], lacking, others, lacking - others))
    return receipts


def with_amount(offers, who, bundle, amount):
    """The offers, with this amount for the bundle of who's; None takes the offer out."""
    changed = [list(listed) for listed in offers]
    changed[who] = [
        (one, amount if one == bundle else old) for one, old in offers[who] if one != bundle or amount is not None
    ]
    return changed


def side_by_side(one, other):
    """The things and the bidders of the second hall behind those of the first."""
    raised = [[(bundle << one[0], amount) for bundle, amount in listed] for listed in other[1]]
    return one[0] + other[0], one[1] + raised


class Without(unittest.TestCase):
    def test_each_who(self):
        for many, offers in SOME:
            for who in range(len(offers)):
                same(self, without(offers, who), without_by_hand(offers, who))

    def test_single_ones(self):
        offers = [[(1, 4), (2, 4)], [], [(1, 3)]]
        same(self, without(offers, 0), [[], [], [(1, 3)]])
        same(self, without(offers, 1), [[(1, 4), (2, 4)], [], [(1, 3)]])
        same(self, without(offers=offers, who=2), [[(1, 4), (2, 4)], [], []])
        same(self, without([[(1, 5)]], 0), [[]])

    def test_what_is_handed_in_stays_and_what_is_told_is_new(self):
        for many, offers in SOME:
            before = repr(offers)
            for who in range(len(offers)):
                told = without(offers, who)
                self.assertEqual(repr(offers), before)
                for place, listed in enumerate(told):
                    self.assertIsNot(listed, offers[place])
                    listed.append((1, 99))
                told.reverse()
                told.append([(1, 7)])
                self.assertEqual(repr(offers), before)
                same(self, without(offers, who), without_by_hand(offers, who))

    def test_lists_that_are_changed_behind_the_call(self):
        offers = [[(1, 4), (2, 4)], [(1, 3)], []]
        told = without(offers, 1)
        offers[0].clear()
        offers[2].append((1, 9))
        offers.reverse()
        same(self, told, [[(1, 4), (2, 4)], [], []])

    def test_lists_that_are_the_same_list(self):
        listed = [(1, 5)]
        told = without([listed, listed, listed], 0)
        told[0].append((2, 1))
        told[1].append((2, 2))
        same(self, told, [[(2, 1)], [(1, 5), (2, 2)], [(1, 5)]])
        same(self, listed, [(1, 5)])


class Receipts(unittest.TestCase):
    def test_the_document_s(self):
        one = [[(1, 5)], [(1, 5)]]
        same(self, receipts_of(1, one), [(1, 5, 5, 0, 5), (0, 0, 5, 5, 0)])
        same(self, pays_of(1, one), [5, 0])
        other = [[(1, 4), (2, 4)], [(1, 3)]]
        same(self, receipts_of(2, other), [(2, 4, 3, 3, 0), (1, 3, 4, 4, 0)])
        same(self, pays_of(2, other), [0, 0])
        third = [[(3, 4)], [(1, 4)], [(2, 4)]]
        same(self, receipts_of(2, third), [(0, 0, 8, 8, 0), (1, 4, 4, 4, 0), (2, 4, 4, 4, 0)])
        same(self, pays_of(2, third), [0, 0, 0])

    def test_by_the_names_of_the_arguments(self):
        same(self, receipts_of(many=1, offers=[[(1, 5)]]), [(1, 5, 0, 0, 0)])
        same(self, pays_of(many=1, offers=[[(1, 5)]]), [0])

    def test_single_ones(self):
        same(self, receipts_of(1, [[(1, 5)], [(1, 9)], [(1, 7)]]), [(0, 0, 9, 9, 0), (1, 9, 7, 0, 7), (0, 0, 9, 9, 0)])
        same(self, receipts_of(2, [[(3, 10)], [(1, 8)], [(2, 6)]]),
             [(0, 0, 14, 14, 0), (1, 8, 10, 6, 4), (2, 6, 10, 8, 2)])
        same(self, receipts_of(2, [[(1, 5), (3, 2)], [(2, 1), (3, 1)]]), [(1, 5, 1, 1, 0), (2, 1, 5, 5, 0)])
        same(self, receipts_of(1, [[(1, GREAT)], [(1, GREAT)]]), [(1, GREAT, GREAT, 0, GREAT), (0, 0, GREAT, GREAT, 0)])

    def test_without_bidders_or_offers(self):
        for many in range(7):
            for bidders in range(7):
                offers = [[] for k in range(bidders)]
                same(self, receipts_of(many, offers), [(0, 0, 0, 0, 0)] * bidders)
                same(self, pays_of(many, offers), [0] * bidders)

    def test_at_the_edges(self):
        for what, many, offers in EDGES:
            if len(best_plans(offers)) <= 800:
                with self.subTest(what):
                    asked = receipts_by_hand(offers)
                    same(self, receipts_of(many, offers), asked)
                    same(self, pays_of(many, offers), [receipt[4] for receipt in asked])

    def test_by_chance(self):
        for many, offers in halls_by_chance(46, 250):
            if len(best_plans(offers)) <= 300:
                with self.subTest(many=many, offers=offers):
                    asked = receipts_by_hand(offers)
                    same(self, receipts_of(many, offers), asked)
                    same(self, pays_of(many, offers), [receipt[4] for receipt in asked])

    def test_kinds(self):
        for many, offers in SOME:
            told = receipts_of(many, offers)
            self.assertIs(type(told), list)
            for receipt in told:
                self.assertIs(type(receipt), tuple)
                self.assertEqual([type(one) for one in receipt], [int] * 5)
            paid = pays_of(many, offers)
            self.assertIs(type(paid), list)
            self.assertEqual([type(pay) for pay in paid], [int] * len(offers))


class WhatFollows(unittest.TestCase):
    def test_pays_lie_from_nought_to_the_amount(self):
        seen = [0, 0, 0]
        for many, offers in SOME + halls_by_chance(47, 200):
            for bundle, amount, lacking, beside, pay in receipts_of(many, offers):
                self.assertLessEqual(0, pay)
                self.assertLessEqual(pay, amount)
                if bundle == 0:
                    self.assertEqual((amount, pay), (0, 0))
                seen[0] += bundle == 0
                seen[1] += 0 < pay < amount
                seen[2] += 0 < pay == amount
        self.assertGreater(min(seen), 10)

    def test_a_winner_s_offer_raised(self):
        for many, offers in SOME:
            worth = greatest_of(many, offers)
            plan = winners_of(many, offers)
            paid = pays_of(many, offers)
            for who, bundle in enumerate(plan):
                amount = dict(offers[who]).get(bundle, 0)
                for more in (1, 2, 7, GREAT - amount):
                    if bundle and amount + more <= GREAT:
                        raised = with_amount(offers, who, bundle, amount + more)
                        self.assertEqual(greatest_of(many, raised), worth + more)
                        same(self, winners_of(many, raised), plan)
                        self.assertEqual(pays_of(many, raised)[who], paid[who])

    def test_an_offer_taken_out_that_is_not_given(self):
        changed = 0
        for many, offers in SOME:
            worth = greatest_of(many, offers)
            plan = winners_of(many, offers)
            paid = pays_of(many, offers)
            for who, listed in enumerate(offers):
                for bundle, amount in listed:
                    if bundle != plan[who]:
                        fewer = with_amount(offers, who, bundle, None)
                        self.assertEqual(len(fewer[who]), len(listed) - 1)
                        self.assertEqual(greatest_of(many, fewer), worth)
                        same(self, winners_of(many, fewer), plan)
                        now = pays_of(many, fewer)
                        self.assertEqual(now[who], paid[who])
                        changed += now != paid
        self.assertGreater(changed, 10)

    def test_the_pay_hangs_on_the_bundle_alone(self):
        for amount in (4, 5, 9, 100, GREAT):
            same(self, pays_of(1, [[(1, amount)], [(1, 3)]]), [3, 0])
            same(self, pays_of(2, [[(1, 1)], [(1, 1), (3, amount)], [(2, 2)]]), [0, 3, 0])

    def test_two_halls_side_by_side(self):
        halls = [(many, offers) for many, offers in SOME if many <= 4 and len(offers) <= 4]
        seen = 0
        for place, one in enumerate(halls):
            for other in halls[place % 7::7]:
                many, offers = side_by_side(one, other)
                if many <= 6 and len(offers) <= 6:
                    seen += 1
                    raised = [bundle << one[0] for bundle in winners_of(other[0], other[1])]
                    both = greatest_of(one[0], one[1]) + greatest_of(other[0], other[1])
                    self.assertEqual(greatest_of(many, offers), both)
                    same(self, winners_of(many, offers), winners_of(one[0], one[1]) + raised)
                    same(self, pays_of(many, offers), pays_of(one[0], one[1]) + pays_of(other[0], other[1]))
        self.assertGreater(seen, 200)

    def test_a_hall_beside_one_without_bidders_or_things(self):
        one = (2, [[(1, 4), (2, 4)], [(1, 3)]])
        for other in ((0, []), (4, []), (0, [[], []]), (4, [[], []])):
            many, offers = side_by_side(one, other)
            same(self, winners_of(many, offers), [2, 1] + [0] * len(other[1]))
            many, offers = side_by_side(other, one)
            same(self, winners_of(many, offers), [0] * len(other[1]) + [2 << other[0], 1 << other[0]])
            same(self, pays_of(many, offers), [0] * len(other[1]) + [0, 0])


class NothingIsChanged(unittest.TestCase):
    def test_what_is_handed_in_stays(self):
        for many, offers in SOME:
            before = repr(offers)
            receipts_of(many, offers)
            pays_of(many, offers)
            self.assertEqual(repr(offers), before)

    def test_what_is_told_is_the_asker_s_own(self):
        for many, offers in SOME:
            for ask in (receipts_of, pays_of):
                told = ask(many, offers)
                other = ask(many, offers)
                asked = repr(told)
                self.assertIsNot(told, other)
                told.reverse()
                told.append(None)
                self.assertEqual(repr(other), asked)
                self.assertEqual(repr(ask(many, offers)), asked)

    def test_lists_that_are_changed_behind_the_call(self):
        offers = [[(1, 5)], [(1, 5)]]
        receipts = receipts_of(1, offers)
        paid = pays_of(1, offers)
        offers[0][0] = (1, 9)
        offers.pop()
        same(self, receipts, [(1, 5, 5, 0, 5), (0, 0, 5, 5, 0)])
        same(self, paid, [5, 0])
        same(self, receipts_of(1, offers), [(1, 9, 0, 0, 0)])


if __name__ == "__main__":
    unittest.main()
