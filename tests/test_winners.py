"""4.1 to 4.5, and 0.1 as far as it speaks of it: gavelhall/winners.py."""

import copy
import itertools
import random
import unittest

from gavelhall.winners import greatest_of, is_plan, plan_worth, winners_of
from tests.halls import (
    EDGES, GREAT, SOME, all_plans, amounts_by, best_plans, first_by_hand, greatest_by_hand, halls_by_chance,
    random_hall,
)
from tests.samples import NO_WHOLES, Stranger, same


def plan_by_hand(offers, plan):
    """Whether a list of whole numbers, as long as there are bidders, is a plan: thing by thing."""
    for thing in range(6):
        if len([bundle for bundle in plan if bundle // 2 ** thing % 2]) > 1:
            return False
    return all(bundle == 0 or bundle in dict(listed) for listed, bundle in zip(offers, plan))


class IsPlan(unittest.TestCase):
    def test_all_lists_of_bundles(self):
        seen = 0
        for many, offers in SOME:
            if many <= 3 and len(offers) <= 3:
                plans = all_plans(offers)
                for told in itertools.product(range(2 ** many + 2), repeat=len(offers)):
                    seen += 1
                    plan = list(told)
                    same(self, is_plan(many, offers, plan), plan_by_hand(offers, plan))
                    same(self, is_plan(many, offers, plan), plan in plans)
        self.assertGreater(seen, 5000)

    def test_each_plan_is_one(self):
        for many, offers in SOME:
            same(self, is_plan(many, offers, [0] * len(offers)), True)
            for plan in all_plans(offers)[:300]:
                same(self, is_plan(many, offers, plan), True)

    def test_by_the_names_of_its_arguments(self):
        same(self, is_plan(many=1, offers=[[(1, 5)]], plan=[1]), True)

    def test_another_length(self):
        for what, many, offers in EDGES:
            nothing = [0] * len(offers)
            with self.subTest(what):
                same(self, is_plan(many, offers, nothing + [0]), False)
                same(self, is_plan(many, offers, [0] * 100), False)
                if offers:
                    same(self, is_plan(many, offers, nothing[1:]), False)
                    same(self, is_plan(many, offers, []), False)

    def test_a_bundle_that_is_not_offered(self):
        offers = [[(1, 4), (6, 4)], [(1, 3)]]
        for bundle in (2, 3, 4, 5, 7, 8, 63, 64, -1, -6, 10 ** 300):
            with self.subTest(bundle):
                same(self, is_plan(3, offers, [bundle, 0]), False)
                same(self, is_plan(3, offers, [0, bundle]), False)
        same(self, is_plan(3, offers, [0, 6]), False)
        same(self, is_plan(3, offers, [6, 0]), True)
        same(self, is_plan(3, [[], [(1, 3)]], [1, 0]), False)

    def test_amounts_are_no_bundles(self):
        same(self, is_plan(3, [[(1, 4)]], [4]), False)
        same(self, is_plan(3, [[(1, 4)]], [(1, 4)]), False)

    def test_a_thing_given_twice(self):
        offers = [[(1, 4), (3, 4)], [(2, 3), (5, 1)], [(4, 2), (7, 9)]]
        for plan in ([1, 5, 0], [3, 2, 0], [3, 5, 0], [1, 0, 7], [0, 5, 4], [0, 2, 7], [1, 2, 7]):
            same(self, is_plan(3, offers, plan), False)
        for plan in ([1, 2, 4], [3, 0, 4], [0, 5, 0], [0, 0, 7], [0, 0, 0]):
            same(self, is_plan(3, offers, plan), True)
        for many in range(2, 7):
            for one, other in itertools.permutations(range(many), 2):
                alike = [[]] * many
                alike[one] = alike[other] = [(1, 1)]
                plan = [0] * many
                plan[one] = plan[other] = 1
                same(self, is_plan(1, alike, plan), False)

    def test_whatever_is_no_list(self):
        for many, offers in ((0, []), (1, [[(1, 5)]]), (2, [[(1, 4), (2, 4)], [(1, 3)]])):
            nothing = [0] * len(offers)
            for what, thing in NO_WHOLES + [("a number", 0), ("one", 1)]:
                if not isinstance(thing, list):
                    with self.subTest(what, many=many):
                        same(self, is_plan(many, offers, thing), False)
            for thing in (tuple(nothing), {k: 0 for k in range(len(offers))}, range(len(offers)), "0" * len(offers)):
                same(self, is_plan(many, offers, thing), False)

    def test_lists_with_what_is_no_whole_number(self):
        offers = [[(1, 4), (2, 4)], [(1, 3), (2, 3)], []]
        for what, thing in NO_WHOLES:
            for place in range(3):
                for plan in ([0, 0, 0], [2, 1, 0], [1, 2, 0]):
                    plan[place] = thing
                    with self.subTest(what, place=place):
                        same(self, is_plan(2, offers, plan), False)
        same(self, is_plan(2, [[(1, 4)]], [True]), False)
        same(self, is_plan(2, [[(1, 4)]], [False]), False)
        same(self, is_plan(2, [[(1, 4)]], [[1]]), False)
        same(self, is_plan(2, [[(1, 4)]], ["1"]), False)
        same(self, is_plan(0, [], [Stranger()]), False)


class Worths(unittest.TestCase):
    def test_worth_of_plans(self):
        for many, offers in SOME:
            for plan in all_plans(offers)[:300]:
                same(self, plan_worth(offers, plan), sum(amounts_by(offers, plan)))

    def test_worth_of_single_plans(self):
        offers = [[(1, 4), (3, 2)], [(2, GREAT)], []]
        for plan, asked in (
            ([0, 0, 0], 0), ([1, 0, 0], 4), ([3, 0, 0], 2), ([0, 2, 0], GREAT), ([1, 2, 0], GREAT + 4),
        ):
            same(self, plan_worth(offers, plan), asked)
        same(self, plan_worth([], []), 0)
        same(self, plan_worth(offers=[[(1, 5)]], plan=[1]), 5)

    def test_the_greatest_worth_at_the_edges(self):
        for what, many, offers in EDGES:
            with self.subTest(what):
                same(self, greatest_of(many, offers), greatest_by_hand(offers))
        same(self, greatest_of(many=1, offers=[[(1, 5)]]), 5)

    def test_the_greatest_worth_by_chance(self):
        for many, offers in SOME + halls_by_chance(42, 150):
            with self.subTest(many=many, offers=offers):
                same(self, greatest_of(many, offers), greatest_by_hand(offers))

    def test_none_without_bidders_or_offers(self):
        for many in range(7):
            for bidders in range(7):
                same(self, greatest_of(many, [[] for k in range(bidders)]), 0)
                same(self, winners_of(many, [[] for k in range(bidders)]), [0] * bidders)

    def test_each_number_of_things_and_bidders(self):
        chance = random.Random(43)
        for many in range(1, 7):
            for bidders in range(1, 7):
                offers = random_hall(chance, many, bidders, 5, [1, 2, 3, GREAT])[1]
                with self.subTest(many=many, bidders=bidders):
                    same(self, greatest_of(many, offers), greatest_by_hand(offers))
                    same(self, winners_of(many, offers), first_by_hand(offers))

    def test_all_bundles_offered_by_all(self):
        chance = random.Random(44)
        for amounts in ([1], [1, 2, 3], range(1, 1000)):
            offers = [[(bundle, chance.choice(amounts)) for bundle in range(1, 32)] for k in range(5)]
            worth = greatest_by_hand(offers)
            same(self, greatest_of(5, offers), worth)
            plan = winners_of(5, offers)
            same(self, is_plan(5, offers, plan), True)
            same(self, plan_worth(offers, plan), worth)

    def test_six_things_six_bidders_and_all_bundles(self):
        offers = [[(bundle, bundle) for bundle in range(1, 64)] for k in range(6)]
        same(self, greatest_of(6, offers), 63)
        same(self, winners_of(6, offers), [63, 0, 0, 0, 0, 0])
        offers = [[(bundle, GREAT if bundle == 1 << k else 1) for bundle in range(1, 64)] for k in range(6)]
        same(self, greatest_of(6, offers), 6 * GREAT)
        same(self, winners_of(6, offers), [1, 2, 4, 8, 16, 32])

    def test_more_things_than_are_offered(self):
        for many in range(2, 7):
            same(self, greatest_of(many, [[(1, 4), (2, 4)], [(1, 3)]]), 7)
            same(self, winners_of(many, [[(1, 4), (2, 4)], [(1, 3)]]), [2, 1])


class Winners(unittest.TestCase):
    def test_the_document_s(self):
        same(self, winners_of(1, [[(1, 5)], [(1, 5)]]), [1, 0])
        same(self, greatest_of(2, [[(1, 4), (2, 4)], [(1, 3)]]), 7)
        same(self, winners_of(2, [[(1, 4), (2, 4)], [(1, 3)]]), [2, 1])
        same(self, best_plans([[(1, 4), (2, 4)], [(1, 3)]]), [[2, 1]])
        same(self, winners_of(2, [[(3, 4)], [(1, 4)], [(2, 4)]]), [0, 1, 2])
        same(self, winners_of(0, []), [])
        same(self, winners_of(many=1, offers=[[(1, 5)]]), [1])

    def test_the_greater_amount_goes_first(self):
        same(self, winners_of(2, [[(1, 4), (2, 5)], [(1, 5), (2, 6)]]), [2, 1])
        same(self, winners_of(2, [[(1, 5), (2, 4)], [(1, 6), (2, 5)]]), [1, 2])
        same(self, winners_of(2, [[(1, 1), (3, 4)], [(2, 3)]]), [3, 0])
        same(self, winners_of(2, [[(1, 1)], [(1, 2), (2, 2), (3, 3)]]), [1, 2])
        same(self, winners_of(2, [[(1, 1)], [(2, 1), (3, 2)], [(1, 1)]]), [1, 2, 0])

    def test_then_the_lesser_bundle(self):
        same(self, winners_of(2, [[(1, 4), (2, 4)], [(1, 4), (2, 4)]]), [1, 2])
        same(self, winners_of(3, [[(1, 4), (2, 4), (4, 4), (7, 4)]]), [1])
        same(self, winners_of(3, [[(3, 4), (4, 4)], [(3, 2), (4, 2)]]), [3, 4])
        same(self, winners_of(3, [[(4, 4), (5, 4), (6, 4)], [(1, 1)]]), [4, 1])

    def test_the_first_of_unlike_bidders_says_it(self):
        same(self, winners_of(2, [[(1, 2), (3, 3)], [(2, 1)], [(2, 1)]]), [3, 0, 0])
        same(self, winners_of(2, [[(1, 2)], [(3, 3)], [(2, 1)]]), [1, 0, 2])
        same(self, winners_of(2, [[(2, 1)], [(3, 3)], [(1, 2)]]), [2, 0, 1])
        same(self, winners_of(3, [[(1, 1), (2, 1)], [(1, 1), (4, 1)], [(1, 1), (2, 1)]]), [1, 4, 2])

    def test_at_the_edges(self):
        for what, many, offers in EDGES:
            if len(best_plans(offers)) <= 800:
                with self.subTest(what):
                    same(self, winners_of(many, offers), first_by_hand(offers))

    def test_by_chance_with_many_plans_of_the_greatest_worth(self):
        seen = 0
        for many, offers in halls_by_chance(45, 400, most=5):
            plans = best_plans(offers)
            if len(plans) <= 300:
                seen += len(plans) > 1
                with self.subTest(many=many, offers=offers):
                    same(self, winners_of(many, offers), first_by_hand(offers))
        self.assertGreater(seen, 100)

    def test_it_is_a_plan_that_comes_to_the_greatest_worth(self):
        for many, offers in SOME:
            plan = winners_of(many, offers)
            same(self, is_plan(many, offers, plan), True)
            same(self, plan_worth(offers, plan), greatest_of(many, offers))


class NothingIsChanged(unittest.TestCase):
    def test_what_is_handed_in_stays(self):
        for many, offers in SOME:
            before = repr(offers)
            plan = winners_of(many, offers)
            told = repr(plan)
            greatest_of(many, offers)
            is_plan(many, offers, plan)
            is_plan(many, offers, plan + [None])
            plan_worth(offers, plan)
            self.assertEqual(repr(offers), before)
            self.assertEqual(repr(plan), told)

    def test_what_is_told_is_the_asker_s_own(self):
        for many, offers in SOME:
            plan = winners_of(many, offers)
            asked = repr(plan)
            other = winners_of(many, offers)
            self.assertIsNot(plan, other)
            plan.append(7)
            plan[0] = 9
            self.assertEqual(repr(other), asked)
            self.assertEqual(repr(winners_of(many, offers)), asked)

    def test_lists_that_are_changed_behind_the_call(self):
        offers = [[(1, 4), (2, 4)], [(1, 3)]]
        own = copy.deepcopy(offers)
        plan = winners_of(2, offers)
        offers[0].clear()
        offers.reverse()
        offers.append([(1, 9)])
        same(self, plan, [2, 1])
        same(self, winners_of(2, own), [2, 1])
        same(self, greatest_of(2, own), 7)
        same(self, (is_plan(2, own, plan), plan_worth(own, plan)), (True, 7))
        same(self, winners_of(2, offers), [0, 0, 1])

    def test_the_same_list_for_several_bidders(self):
        listed = [(1, 3), (2, 2)]
        same(self, winners_of(2, [listed, listed, listed]), [1, 2, 0])
        same(self, greatest_of(2, [listed, listed, listed]), 5)


if __name__ == "__main__":
    unittest.main()
