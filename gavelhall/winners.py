"""Winners: of all plans the one that comes to the greatest worth, and the first of these where there are several."""

from gavelhall.bundles import apart, holds
from gavelhall.wholes import is_whole


def is_plan(many, offers, plan):
    if not isinstance(plan, list) or len(plan) != len(offers):
        return False
    given = 0
    for listed, bundle in zip(offers, plan):
        if not may_get(listed, bundle) or not apart(given, bundle):
            return False
        given = given | bundle
    return True


def may_get(listed, bundle):
    # Whatever is no whole number is not compared: True would pass for 1.
    if not is_whole(bundle):
        return False
    return bundle == 0 or bundle in [offered for offered, amount in listed]


def plan_worth(offers, plan):
    return sum([amount_of(listed, bundle) for listed, bundle in zip(offers, plan)])


def amount_of(listed, bundle):
    return dict(listed).get(bundle, 0)


def greatest_of(many, offers):
    return greatest_by_bundle(many, offers)[-1]


def winners_of(many, offers):
    tables = tables_behind(many, offers)
    free = (1 << many) - 1
    plan = []
    for number, listed in enumerate(offers):
        bundle = first_choice(tables[number + 1], listed, free)
        plan.append(bundle)
        free = free - bundle
    return plan


def first_choice(behind, listed, free):
    # The greatest worth goes first, then the bidder's own amount, then the least bundle.
    ranked = [(amount + behind[free - bundle], amount, -bundle) for bundle, amount in choices_in(listed, free)]
    return -max(ranked)[2]


def choices_in(listed, free):
    return [(0, 0)] + [(bundle, amount) for bundle, amount in listed if holds(free, bundle)]


def greatest_by_bundle(many, offers):
    # At place b the greatest worth of a plan where there are just the things of the bundle b.
    return tables_behind(many, offers)[0]


def tables_behind(many, offers):
    # At place k such a list as greatest_by_bundle tells, of the bidders from k on alone; the last one is of none.
    tables = [[0] * (1 << many)]
    for listed in reversed(offers):
        tables.append(with_bidder(tables[-1], listed))
    return list(reversed(tables))


def with_bidder(behind, listed):
    return [best_with(behind, listed, free) for free in range(len(behind))]


def best_with(behind, listed, free):
    return max([amount + behind[free - bundle] for bundle, amount in choices_in(listed, free)])
