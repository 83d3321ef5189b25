"""The plan that draws most.

The numbers here may be beyond the bounds of a yard: shares are found by taking the water and the wishes manifold.
"""


def take(there, tank, wish):
    # Water that stands higher can still go wherever lower water can, so the lowest is taken first.
    wanting = wish
    for giver in range(tank, -1, -1):
        taken = min(wanting, there[giver])
        there[giver] = there[giver] - taken
        wanting = wanting - taken
    return wish - wanting


def stay(rooms, there):
    kept = []
    falling = 0
    for room, water in zip(rooms, there):
        held = min(room, water + falling)
        falling = falling + water - held
        kept.append(held)
    return kept


def fullest_plan(rooms, waters, days):
    # A wish that can be met today is met: a drop that is drawn today counts as much as one that is drawn later. What
    # is left stays as high as it can, for there it can do all that it could do further down. So no look ahead is due.
    plan = []
    lying = waters
    for rain, wishes in days:
        there = [water + rained for water, rained in zip(lying, rain)]
        drawn = []
        for tank, wish in enumerate(wishes):
            drawn.append(take(there, tank, wish))
        lying = stay(rooms, there)
        plan.append((drawn, lying))
    return plan
