"""Cuts: in which blocks a box is kept saved at the least cost."""

from fewsaves.flows import fullest_flow, outside, why_none
from fewsaves.lives import busy
from fewsaves.paths import led_to, nexts_by, turned
from fewsaves.plans import cost
from fewsaves.works import boxes_in


def cheapest(works, number, box, counts, prices, shut):
    """Of the lists of blocks that cost least the one within all of them; None where there is no list."""
    if why_none(works, number, box, shut) is not None:
        return None
    flow = fullest_flow(works, number, box, counts, prices, shut)
    # A step with room isn't paid for in full, so where it begins inside it must end inside.
    return sorted(led_to(busy(works, number, box), nexts_by(flow.free_steps())))


def widest(works, number, box, counts, prices, shut):
    """Of the lists of blocks that cost least the one that has all of them within; None where there is no list."""
    if why_none(works, number, box, shut) is not None:
        return None
    work = works[number]
    flow = fullest_flow(works, number, box, counts, prices, shut)
    # Likewise, what a step with room leads out of the work from must itself be outside.
    outer = led_to(outside(work), nexts_by(turned(flow.free_steps())))
    return [at for at in range(len(work)) if at not in outer]


def least_cost(works, number, box, counts, prices, shut):
    """What the lists of blocks that cost least cost; None where there is no list."""
    inside = cheapest(works, number, box, counts, prices, shut)
    return None if inside is None else cost(works[number], {box: inside}, counts, prices)


def cheapest_plan(works, number, counts, prices, shut):
    """The plan of the cheapest list for each box that the work writes; None where a box has none."""
    plan = {box: cheapest(works, number, box, counts, prices, shut) for box in boxes_in(works[number])}
    return None if None in list(plan.values()) else plan
