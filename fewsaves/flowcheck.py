"""Flowcheck: whether flows show that a list of blocks costs least, and whether a row of blocks shows that none is."""

from fewsaves.lives import busy
from fewsaves.paths import turned
from fewsaves.plans import cost, is_inside, word_on
from fewsaves.works import is_number, is_number_from, ways_of


def is_numbers(thing, many):
    """Whether it is a list of so many numbers."""
    return isinstance(thing, list) and len(thing) == many and all([is_number(part) for part in thing])


def is_paid(flow, count, prices):
    """Whether the way's count and the prices pay for what flows on it."""
    save, back = prices
    return 0 - count * save <= flow <= count * back


def flow_to(flow_of, place):
    """What flows on the ways to the place, together."""
    return sum([flow for way, flow in flow_of.items() if way[1] == place])


def flow_from(flow_of, place):
    """What flows on the ways from the place, together."""
    return sum([flow for way, flow in flow_of.items() if way[0] == place])


def shows_cheapest(works, number, box, counts, prices, shut, inside, flows):
    """Whether the box may be kept saved inside, and the flows show that nothing costs less."""
    work = works[number]
    ways = ways_of(work)
    if not is_inside(works, number, box, inside) or any([word_on(way, inside) is not None for way in shut]):
        return False
    if not is_numbers(flows, len(ways)):
        return False
    if not all([way in shut or is_paid(flow, count, prices) for way, flow, count in zip(ways, flows, counts)]):
        return False
    flow_of = dict(zip(ways, flows))
    others = [at for at in range(len(work)) if at not in busy(works, number, box)]
    if not all([flow_to(flow_of, at) == flow_from(flow_of, at) for at in others]):
        return False
    return flow_to(flow_of, len(work)) - flow_from(flow_of, -1) == cost(work, {box: inside}, counts, prices)


def shows_none(works, number, box, shut, thing):
    """Whether it is a list of unlike blocks that shut ways tie together, from a busy one to one tied to outside."""
    many = len(works[number])
    if not isinstance(thing, list) or not thing or not all([is_number_from(at, 0, many) for at in thing]):
        return False
    if len(set(thing)) != len(thing) or thing[0] not in busy(works, number, box):
        return False
    ties = shut + turned(shut)
    if not all([step in ties for step in zip(thing, thing[1:])]):
        return False
    return (thing[-1], -1) in ties or (thing[-1], many) in ties
