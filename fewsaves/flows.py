"""Flows: how much can flow from a box's busy blocks out of the work, and by which shut ways nothing holds it back."""

from fewsaves.lives import busy
from fewsaves.paths import nexts_by, shortest, turned
from fewsaves.works import ways_of


class Flow:
    """What flows on each way, against it where below 0, and the limits of that.

    What crosses a way pays for what is put there: with the way a bringing back, against it a save.
    """

    def __init__(self, ways, counts, prices, shut):
        save, back = prices
        # More than all open ways hold together, so a shut way is never full.
        beyond = sum(counts) * (save + back) + 1
        self.amounts = {way: 0 for way in ways}
        self.limits = {way: (-count * save, count * back) for way, count in zip(ways, counts)}
        for way in shut:
            self.limits[way] = (-beyond, beyond)

    def room(self, step, way):
        """How much more may flow on the way by a step (from, to), with the way or against it."""
        low, high = self.limits[way]
        return high - self.amounts[way] if step == way else self.amounts[way] - low

    def way_for(self, step):
        """A way with room for the step, None where there is none."""
        for way in [step] + turned([step]):
            if way in self.limits and self.room(step, way) > 0:
                return way
        return None

    def free_steps(self):
        """The list of the steps that there is room for."""
        ways = list(self.limits)
        return [step for step in ways + turned(ways) if self.way_for(step) is not None]

    def push(self, path):
        """Lets as much more flow along the path as there is room for."""
        steps = list(zip(path, path[1:]))
        ways = [self.way_for(step) for step in steps]
        more = min([self.room(step, way) for step, way in zip(steps, ways)])
        for step, way in zip(steps, ways):
            self.amounts[way] += more if step == way else -more


def outside(work):
    """The places that no block is: where the door comes from, and where ways out lead to."""
    return (-1, len(work))


def fullest_flow(works, number, box, counts, prices, shut):
    """The flow of as much as can be from the box's busy blocks to outside, where why_none tells None."""
    work = works[number]
    starts = busy(works, number, box)
    flow = Flow(ways_of(work), counts, prices, shut)
    # Paths as short as can be, so that how many there are doesn't hang on how great the counts are.
    path = shortest(starts, nexts_by(flow.free_steps()), outside(work))
    while path is not None:
        flow.push(path)
        path = shortest(starts, nexts_by(flow.free_steps()), outside(work))
    return flow


def flow_paper(works, number, box, counts, prices, shut):
    """What flows on each way, as ways_of has them, to show that no list of blocks costs less; None without a list."""
    if why_none(works, number, box, shut) is not None:
        return None
    flow = fullest_flow(works, number, box, counts, prices, shut)
    return [flow.amounts[way] for way in ways_of(works[number])]


def why_none(works, number, box, shut):
    """The fewest blocks that shut ways tie together, from a busy one to one tied to outside; None without such."""
    path = shortest(busy(works, number, box), nexts_by(shut + turned(shut)), outside(works[number]))
    return None if path is None else path[:-1]
